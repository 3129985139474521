/-
  Contracts of footwaylaw17's few, rows, in, alive.
-/
import Derived.Test.YtgcmklliafcffaaFloodY
import Derived.Test.YtgcmklliafcffaaLanS
import Derived.BigRegion
namespace Go.Proofs.Ytgcmklliafcffaa.LanP
open Go.RowKit Go.Sort Go.Proofs.Ytgcmklliafcffaa.SliceP Go.Proofs.Ytgcmklliafcffaa.BoxP
open Go.Proofs.Ytgcmklliafcffaa.IntP (RowI SlI OwnI)
open Go.Proofs.Ytgcmklliafcffaa.BoolP (RowB SlB OwnB)
open Go.Proofs.Ytgcmklliafcffaa.MacP (arr_out Wrote wp_region_ends outM)
set_option linter.unusedVariables false
set_option maxRecDepth 100000
set_option maxHeartbeats 16000000 in
theorem o_few17b {l : L} {A : Option Addr} {c : Nat} {B : Option Addr} {d : Nat} {w : World} {wb : World} (hr : LanR wb l A c B d) (hb0 : Below wb.heap.size wb w) :
    Calls Try.prog 21 #[lv l A c B d] w fun e w' => ∃ (A' : Option Addr) (c' : Nat) (K : List PP), e = .returned (lv l.few A' c' B d) ∧ Below w.heap.size w w' ∧ l.few.plans = K.map PP.p ∧ ∀ X W', X < w.heap.size → w'.grownBy W' (some X) → Below wb.heap.size wb W' → LanR W' l.few A' c' B d ∧ Sl W' 2 A' (K.map PP.cells) ∧ ∀ x ∈ K, x.in_ W' := by
  obtain ⟨m, hm⟩ : ∃ m, (l.plans.take 8).length = m := ⟨_, rfl⟩
  obtain ⟨n, hn⟩ : ∃ n, (l.hosts.take 12).length = n := ⟨_, rfl⟩
  have q1 : (if (8 : Int) < (l.plans.length : Int) then (8 : Int) else (l.plans.length : Int)) = (m : Int) := by rw [List.length_take] at hm; split <;> omega
  have q2 : min (l.plans.length : Int) 8 = (m : Int) := by rw [List.length_take] at hm; omega
  have q3 : (if (12 : Int) < (l.hosts.length : Int) then (12 : Int) else (l.hosts.length : Int)) = (n : Int) := by rw [List.length_take] at hn; split <;> omega
  have q4 : min (l.hosts.length : Int) 12 = (n : Int) := by rw [List.length_take] at hn; omega
  have hmc : m ≤ c := by have := hr.plans.cap; rw [List.length_take] at hm; omega
  have hnd : n ≤ d := by have := hr.hosts.cap; rw [List.length_take] at hn; omega
  have hcm := hr.plans.mx
  have hdm := hr.hosts.mx
  have hml : m ≤ 8 := by rw [List.length_take] at hm; omega
  have H := Lib.hid hr
  have HP := Lib.hid (show RowP wb A (l.plans.take 8).length c (l.plans.take 8) from hr.plans.take 8)
  obtain ⟨w0, hw0⟩ : ∃ W, W = (w.alloc (.cells #[.int .i64 l.segs, .slice A l.plans.length c, .slice B l.hosts.length d] 25)).alloc (.cells #[.int .i64 0, .slice none 0 0, .slice none 0 0] 25) := ⟨_, rfl⟩
  obtain ⟨b2, hb2⟩ : ∃ b, b = w.heap.size + 1 := ⟨_, rfl⟩
  have B0 := Lib.hid (show Below w.heap.size w w0 by rw [hw0]; exact ((Below.refl _ _).alloc (Nat.le_refl _) _).alloc (by simp) _)
  have X0 := Lib.hid (show Bx w0 w.heap.size 25 #[.int .i64 l.segs, .slice A l.plans.length c, .slice B l.hosts.length d] by rw [hw0]; exact (Bx.new _ _ _ rfl).alloc _)
  have Y0 := Lib.hid (show Bx w0 b2 25 #[.int .i64 0, .slice none 0 0, .slice none 0 0] by rw [hw0, hb2]; exact Bx.new _ _ _ (by simp))
  have hd2 := Lib.hid (show w.heap.size ≤ b2 ∧ w.heap.size ≠ b2 by omega)
  obtain ⟨ps, hps⟩ : ∃ ps, l.plans.take 8 = ps := ⟨_, rfl⟩
  rw [hps] at hm HP
  subst hm
  replace hn := Lib.hid hn
  replace hb0 := Lib.hid hb0
  clear hr
  go_enter Try.func21, Try.ntmps21
  go_upto_region 2 with fail
  rw [← hw0, ← hb2]
  clear hw0 hb2
  have x0 := X0.out.c (i := 0) rfl
  have x1 := X0.out.c (i := 1) rfl
  have x2 := X0.out.c (i := 2) rfl
  have zz := X0.out.lt
  have hsz0 := Lib.hid (show w.heap.size < w0.heap.size ∧ b2 < w0.heap.size from ⟨X0.out.lt, Y0.out.lt⟩)
  go_wp2_with fail
  clear x0 x1 x2 zz
  go_loopw [3, 14] (fun v i wr => ∃ (k : Nat) (L : List PP), k ≤ ps.length ∧ i = .int .i64 k ∧ L.map PP.p = (ps.take k).map P.few ∧ (∀ x ∈ L, x.in_ wb) ∧ Own wr w0.heap.size 60 2 v (L.map PP.cells) ∧ w0.heap.size ≤ wr.heap.size ∧ Bx wr w.heap.size 25 #[.int .i64 l.segs, .slice A l.plans.length c, .slice B l.hosts.length d] ∧ Bx wr b2 25 #[.int .i64 0, .slice none 0 0, .slice none 0 0] ∧ Below w.heap.size w wr) (fun _ i _ => ps.length - (intOf i).toNat)
  case atStart => exact ⟨0, [], by omega, rfl, rfl, (fun x hx => by cases hx), Own.nil _ _ _ _, Nat.le_refl _, X0.out, Y0.out, B0.out⟩
  case round =>
    clear X0 Y0 B0
    obtain ⟨k, L, hk, rfl, hL, hin, hown, hsz, hX, hY, hb⟩ := hrel
    obtain ⟨wo, hwo⟩ : ∃ W, W = wr := ⟨_, rfl⟩
    subst hwo
    obtain ⟨A3, c3, hv3⟩ := own_form hown
    subst hv3
    have hlenL : L.length = k := by have := congrArg List.length hL; rw [List.length_map, List.length_map, List.length_take] at this; omega
    by_cases hkn : k < ps.length
    · have hkl : (k : Int) < (ps.length : Int) := by omega
      obtain ⟨x, hx⟩ : ∃ x, ps[k]? = some x := ⟨_, List.getElem?_eq_getElem hkn⟩
      obtain ⟨bS, oS, A8, c8, hAS, hbS, q8_0, q8_1, hrow⟩ := RowP.at_ HP.out hx
      subst hAS
      have hbb := bt hb0.out hb
      replace q8_0 := (hbb.cell (p := ⟨bS, _, none⟩) hbS).trans q8_0
      replace q8_1 := (hbb.cell (p := ⟨bS, _, none⟩) hbS).trans q8_1
      replace hbS := Nat.lt_of_lt_of_le hbS hbb.size
      clear hbb
      obtain ⟨u, hu⟩ : ∃ u, (x.ports.take 10).length = u := ⟨_, rfl⟩
      have r1 : (if (10 : Int) < (x.ports.length : Int) then (10 : Int) else (x.ports.length : Int)) = (u : Int) := by rw [List.length_take] at hu; split <;> omega
      have r2 : min (x.ports.length : Int) 10 = (u : Int) := by rw [List.length_take] at hu; omega
      have r3 : u ≤ c8 := by have := hrow.cap; rw [List.length_take] at hu; omega
      have r4 := hrow.mx
      have hnx := few_succ hx
      rw [← hL] at hnx
      have hel := Lib.hid (show PP.in_ wb ⟨x.few, A8, c8⟩ from hrow.take 10)
      have hcl : PP.cells ⟨x.few, A8, c8⟩ = [.int .i64 x.id, .slice A8 u c8] := by rw [← hu]; rfl
      obtain ⟨w8, hw8⟩ : ∃ W, W = wo.alloc (.cells #[.int .i64 x.id, .slice A8 u c8] 60) := ⟨_, rfl⟩
      have bb8 : Below wo.heap.size wo w8 := by rw [hw8]; exact (Below.refl _ _).alloc (Nat.le_refl _) _
      have b8 := Lib.hid (bt hb bb8)
      have Z8 := Lib.hid (show Bx w8 wo.heap.size 60 #[.int .i64 x.id, .slice A8 u c8] by rw [hw8]; exact Bx.new _ _ _ rfl)
      have own8 := Lib.hid (hown.below bb8)
      have X8 := Lib.hid (hX.below bb8)
      have Y8 := Lib.hid (hY.below bb8)
      have hsz8 := Lib.hid (Nat.le_trans hsz bb8.size)
      have hlen9 := Lib.hid hlenL
      replace hin := Lib.hid hin
      replace hnx := Lib.hid hnx
      replace hcl := Lib.hid hcl
      replace hx := Lib.hid hx
      replace hL := Lib.hid hL
      replace hu := Lib.hid hu
      clear hown hX hY hb bb8 hsz hrow hlenL
      go_upto_region 6 with fail
      rw [← hw8]
      clear hw8 q8_0 q8_1 hbS r1 r2 r3 r4
      have o8_0 := Z8.out.c (i := 0) rfl
      have o8_1 := Z8.out.c (i := 1) rfl
      have zz8 := Z8.out.lt
      obtain ⟨w9, hw9⟩ : ∃ W, W = w8.alloc (.cells #[.int .i64 x.id, .slice A8 u c8] 60) := ⟨_, rfl⟩
      have b9 : Below w8.heap.size w8 w9 := by rw [hw9]; exact (Below.refl _ _).alloc (Nat.le_refl _) _
      have hsl := Lib.hid (show Sl w9 2 (some ⟨w8.heap.size, 0, none⟩) ([PP.mk x.few A8 c8].map PP.cells) from bx_sl (T := 60) (vals := #[.int .i64 x.id, .slice A8 u c8]) (by rw [hw9]; exact Bx.new _ _ _ rfl) (by show _ = (PP.cells ⟨x.few, A8, c8⟩ ++ []); rw [hcl.out]; rfl) (by intro c hc; simp at hc; subst hc; rfl))
      have own9 := Lib.hid (own8.out.below b9)
      have hb9 := Lib.hid (bt b8.out b9)
      have X9 := Lib.hid (X8.out.below b9)
      have Y9 := Lib.hid (Y8.out.below b9)
      have hn1 : Hid ((L.map PP.cells).length + ([PP.mk x.few A8 c8].map PP.cells).length ≤ 1000000) := Lib.hid (by rw [List.length_map]; have := hlen9.out; simp; omega)
      have hvl : Hid ((L.map PP.cells).length = L.length) := Lib.hid (by rw [List.length_map])
      have hB2 : Hid (w0.heap.size ≤ w9.heap.size) := Lib.hid (Nat.le_trans hsz8.out b9.size)
      clear b9
      go_wp2_with (at_builtin; rw [← hw9]; (refine wpList_append_sl rfl (.tmp 26) (.tmp 28) 22 rfl elP (by rfl) own9.out (by rfl) (by rfl) hsl.out (wholeP _) (fun h => by cases h) hn1.out hB2.out ?_); intro v' w4 own1 grow1 _)
      have hgr : ∀ j, (Value.slice A3 L.length c3).ownBlock = some j → w0.heap.size ≤ j := fun j hj => (own9.out.lt j hj).1
      have b4 : Below w.heap.size w w4 := hb9.out.grown grow1 hb9.out.size (fun j hj => by have := hgr j hj; have := hsz0.out; omega)
      have X4 := X9.out.grown grow1 (fun e => by have := hgr _ e.symm; have := hsz0.out; omega)
      have Y4 := Y9.out.grown grow1 (fun e => by have := hgr _ e.symm; have := hsz0.out; omega)
      have hsz4 := Nat.le_trans hB2.out grow1.size
      go_roundw
      case rel =>
        refine ⟨k + 1, L ++ [⟨x.few, A8, c8⟩], by omega, by go_num, by rw [hnx.out, List.map_append]; rfl, fun y hy => ?_, by rw [List.map_append]; exact own1, hsz4, X4, Y4, b4⟩
        rcases List.mem_append.1 hy with hy | hy
        · exact hin.out y hy
        · obtain rfl := List.mem_singleton.1 hy; exact hel.out
      case measure => simp [intOf]; omega
    · obtain rfl : k = ps.length := by omega
      rw [List.take_length] at hL
      have hPl : l.few.plans = L.map PP.p := by rw [hL, ← hps]; rfl
      have hnp : l.few.plans.length = L.length := by rw [hPl, List.length_map]
      have hnh : l.few.hosts.length = n := hn.out
      have hown9 := Lib.hid hown
      have hho := Lib.hid (show Row hc 2 wb B l.few.hosts.length d l.few.hosts from H.out.hosts.take 12)
      have hbw := Lib.hid hb
      have x0 := hX.c (i := 0) rfl
      have x1 := hX.c (i := 1) rfl
      have x2 := hX.c (i := 2) rfl
      have f0 := hX.f 0
      have f1 := hX.f 1
      have f2 := hX.f 2
      have y0 := hY.c (i := 0) rfl
      have y1 := hY.c (i := 1) rfl
      have y2 := hY.c (i := 2) rfl
      have g0 := hY.f 0
      have g1 := hY.f 1
      have g2 := hY.f 2
      have zz := hX.lt
      have z2 := hY.lt
      have hfar := Lib.hid (show ∀ a, A3 = some a → w0.heap.size ≤ a.block from fun a ha => (own_far hown a ha).1)
      have hne1 : ¬ b2 = w.heap.size := fun e => hd2.out.2 e.symm
      have hne2 : ¬ w.heap.size = b2 := fun e => hd2.out.2 e
      replace hPl := Lib.hid hPl
      replace hL := Lib.hid hL
      replace hin := Lib.hid hin
      replace hnp := Lib.hid hnp
      replace hnh := Lib.hid hnh
      replace hlenL := Lib.hid hlenL
      have XX := Lib.hid hX
      have YY := Lib.hid hY
      clear hown hX hY hb hsz
      go_upto_region 8 with fail
      go_region
      obtain ⟨w5, hw5⟩ : ∃ W, W = ((wo.setCell ⟨w.heap.size, 1, none⟩ (.slice A3 L.length c3)).setCell ⟨w.heap.size, 2, none⟩ (.slice B n d)).drew := ⟨_, rfl⟩
      have hdr : ∀ W : World, Below W.heap.size W W.drew := fun W => (Below.refl _ _).drew
      have X5 := (show Bx w5 w.heap.size 25 #[.int .i64 l.segs, .slice A3 L.length c3, .slice B n d] by rw [hw5]; exact ((XX.out.set 1 (.slice A3 L.length c3)).set 2 (.slice B n d)).below (hdr _))
      have Y5 := (show Bx w5 b2 25 #[.int .i64 0, .slice none 0 0, .slice none 0 0] by rw [hw5]; exact ((YY.out.other hne1 1 (.slice A3 L.length c3)).other hne1 2 (.slice B n d)).below (hdr _))
      have B5 := Lib.hid (show Below w.heap.size w w5 by rw [hw5]; exact ((hbw.out.setCell (Nat.le_refl _) (.slice A3 L.length c3)).setCell (Nat.le_refl _) (.slice B n d)).drew)
      have hob : (Value.slice A3 L.length c3).ownBlock = none ∨ (Value.slice A3 L.length c3).ownBlock ≠ some w.heap.size := .inr (fun e => by have := (hown9.out.lt _ e).1; have := hsz0.out; omega)
      have hob2 : (Value.slice A3 L.length c3).ownBlock = none ∨ (Value.slice A3 L.length c3).ownBlock ≠ some b2 := .inr (fun e => by have := (hown9.out.lt _ e).1; have := hsz0.out; omega)
      have own5 := Lib.hid (show Own w5 w0.heap.size 60 2 (.slice A3 L.length c3) (L.map PP.cells) by rw [hw5]; exact ((hown9.out.kept (setCell_grown _ _ _ _) hob).kept (setCell_grown _ _ _ _) hob).below (hdr _))
      replace hob := Lib.hid hob
      replace hob2 := Lib.hid hob2
      rw [← hw5]
      clear hw5 hdr x0 x1 x2 f0 f1 f2 y0 y1 y2 g0 g1 g2 zz z2 XX YY
      have x0 := X5.c (i := 0) rfl
      have x1 := X5.c (i := 1) rfl
      have x2 := X5.c (i := 2) rfl
      have y0 := Y5.c (i := 0) rfl
      have y1 := Y5.c (i := 1) rfl
      have y2 := Y5.c (i := 2) rfl
      have g0 := Y5.f 0
      have g1 := Y5.f 1
      have g2 := Y5.f 2
      have zz := X5.lt
      have z2 := Y5.lt
      replace X5 := Lib.hid X5
      replace Y5 := Lib.hid Y5
      go_wp2_with fail
      obtain ⟨w6, hw6⟩ : ∃ W, W = ((w5.setCell ⟨b2, 0, none⟩ (.int .i64 l.segs)).setCell ⟨b2, 1, none⟩ (.slice A3 L.length c3)).setCell ⟨b2, 2, none⟩ (.slice B n d) := ⟨_, rfl⟩
      have Y6 := (show Bx w6 b2 25 #[.int .i64 l.segs, .slice A3 L.length c3, .slice B n d] by rw [hw6]; exact Bx.three Y5.out)
      have B6 := Lib.hid (show Below w.heap.size w w6 by rw [hw6]; exact ((B5.out.setCell hd2.out.1 (.int .i64 l.segs)).setCell hd2.out.1 (.slice A3 L.length c3)).setCell hd2.out.1 (.slice B n d))
      have own6 := Lib.hid (show Own w6 w0.heap.size 60 2 (.slice A3 L.length c3) (L.map PP.cells) by rw [hw6]; exact ((own5.out.kept (setCell_grown _ _ _ _) hob2.out).kept (setCell_grown _ _ _ _) hob2.out).kept (setCell_grown _ _ _ _) hob2.out)
      rw [← hw6]
      clear hw6 x0 x1 x2 y0 y1 y2 g0 g1 g2 zz z2
      have k0 := Y6.c (i := 0) rfl
      have k1 := Y6.c (i := 1) rfl
      have k2 := Y6.c (i := 2) rfl
      replace Y6 := Lib.hid Y6
      refine bodyPost_ret (v := .agg #[.int .i64 l.segs, .slice A3 L.length c3, .slice B n d]) (by simp [results, Try.results21, go_sem, k0, k1, k2]) rfl ⟨A3, c3, L, ?_, B6.out, hPl.out, fun X W' hX hg hbW => ?_⟩
      · show _ = Ending.returned (.agg #[.int .i64 l.few.segs, .slice A3 l.few.plans.length c3, .slice B l.few.hosts.length d])
        rw [hnp.out, hnh.out]; rfl
      · have own7 := own6.out.kept hg (.inr (fun e => by have := (own6.out.lt _ e).1; have := hsz0.out; omega))
        refine ⟨⟨?_, hho.out.below hbW⟩, own7.sl (by decide), fun x hx => (hin.out x hx).below hbW⟩
        rw [hnp.out, hPl.out]
        exact RowP.new own7 (fun x hx => (hin.out x hx).below hbW)
theorem o_few17 {l : L} {A : Option Addr} {c : Nat} {B : Option Addr} {d : Nat} {w : World} {wb : World} (hr : LanR wb l A c B d) (hb0 : Below wb.heap.size wb w) :
    Calls Try.prog 21 #[lv l A c B d] w fun e w' => ∃ A' c', e = .returned (lv l.few A' c' B d) ∧ Below w.heap.size w w' ∧ ∀ X W', X < w.heap.size → w'.grownBy W' (some X) → Below wb.heap.size wb W' → LanR W' l.few A' c' B d :=
  (o_few17b hr hb0).mono fun e w' ⟨A', c', K, h1, h2, h3, h4⟩ => ⟨A', c', h1, h2, fun X W' a b c => (h4 X W' a b c).1⟩
theorem elRB17 : ElemT Try.prog 36 44 1 := ElemT.mk' (z := .slice none 0 0) (bytes := 24) Try.underlying36 (by kernel_rfl) (by decide) rfl (by decide)
set_option maxHeartbeats 400000 in
theorem o_in17 (s n : Int) {b : Bool} (hb : (decide (0 ≤ s) && decide (s < n)) = b) (w : World) : Calls Try.prog 28 #[.int .i64 s, .int .i64 n] w fun e w' => e = .returned (.bool b) ∧ w = w' := by
  subst hb
  by_cases h : 0 ≤ s
  · have hd : decide (0 ≤ s) = true := decide_eq_true h
    obtain ⟨q, hq⟩ : ∃ q, decide (s < n) = q := ⟨_, rfl⟩
    rw [hq, hd]
    replace hq := hq
    go_enter Try.func28, Try.ntmps28
    go_wp2_with fail
    go_ret
    exact ⟨by simp, rfl⟩
  · have hd : decide (0 ≤ s) = false := decide_eq_false h
    rw [hd]
    go_enter Try.func28, Try.ntmps28
    go_wp2_with fail
    go_ret
    exact ⟨by simp, rfl⟩
def rw10 (r : List Bool) : List Bool := r.take 10
def fewO (O : List (List Bool)) : List (List Bool) := (O.take 8).map rw10
theorem fewO_len (O : List (List Bool)) : (fewO O).length ≤ 8 := by unfold fewO; rw [List.length_map, List.length_take]; omega
theorem fewO_row {O : List (List Bool)} {r : List Bool} (h : r ∈ fewO O) : r.length ≤ 10 := by
  unfold fewO at h
  obtain ⟨x, _, rfl⟩ := List.mem_map.1 h
  unfold rw10; rw [List.length_take]; omega
set_option maxHeartbeats 8000000 in
theorem o_rows17 {O : List (List Bool)} {C : Option Addr} {e : Nat} {w wb : World} (hR : RowL bc wb C O.length e O) (hb0 : Below wb.heap.size wb w) :
    Calls Try.prog 22 #[.slice C O.length e] w fun en w' => ∃ C' e', en = .returned (.slice C' (fewO O).length e') ∧ Below w.heap.size w w' ∧ ∀ X W', X < w.heap.size → w'.grownBy W' (some X) → Below wb.heap.size wb W' → RowL bc W' C' (fewO O).length e' (fewO O) := by
  obtain ⟨m, hm⟩ : ∃ m, (O.take 8).length = m := ⟨_, rfl⟩
  have q1 : (if (8 : Int) < (O.length : Int) then (8 : Int) else (O.length : Int)) = (m : Int) := by rw [List.length_take] at hm; split <;> omega
  have q2 : min (O.length : Int) 8 = (m : Int) := by rw [List.length_take] at hm; omega
  have hmc : m ≤ e := by have := hR.cap; rw [List.length_take] at hm; omega
  have hcm := hR.mx
  have hml : m ≤ 8 := by rw [List.length_take] at hm; omega
  have H := Lib.hid hR
  have hmO : m ≤ O.length := by rw [List.length_take] at hm; omega
  have hfl : (fewO O).length = m := by unfold fewO; rw [List.length_map]; exact hm
  rw [hfl]
  replace hfl := Lib.hid hfl
  replace hm := Lib.hid hm
  replace hb0 := Lib.hid hb0
  clear hR
  go_enter Try.func22, Try.ntmps22
  go_wp2_with fail
  go_loopw [3, 5, 12] (fun v u i wr => ∃ (k : Nat) (K : List (RwP Bool)), k ≤ m ∧ i = .int .i64 k ∧ K.map RwP.l = (O.take k).map rw10 ∧ (∀ x ∈ K, Row bc 1 wb x.A x.l.length x.c x.l) ∧ Own wr w.heap.size 44 1 v (K.map RwP.cells) ∧ Below w.heap.size w wr) (fun _ _ i _ => m - (intOf i).toNat)
  case atStart => exact ⟨0, [], by omega, rfl, rfl, (fun x hx => by cases hx), Own.nil _ _ _ _, Below.refl _ _⟩
  case round =>
    obtain ⟨k, K, hk, rfl, hL, hin, hown, hb⟩ := hrel
    obtain ⟨A3, c3, hv3⟩ := own_form hown
    subst hv3
    have hlenK : K.length = k := by have := congrArg List.length hL; rw [List.length_map, List.length_map, List.length_take] at this; omega
    by_cases hkn : k < m
    · have hkl : (k : Int) < (m : Int) := by omega
      obtain ⟨x, hx⟩ : ∃ x, O[k]? = some x := ⟨_, List.getElem?_eq_getElem (by omega)⟩
      obtain ⟨bS, oS, A8, c8, hAS, hbS, q8, hrow⟩ := H.out.at_ hx
      subst hAS
      have hbb := bt hb0.out hb
      replace q8 := (hbb.cell (p := ⟨bS, _, none⟩) hbS).trans q8
      replace hbS := Nat.lt_of_lt_of_le hbS hbb.size
      clear hbb
      obtain ⟨u, hu⟩ : ∃ u, (x.take 10).length = u := ⟨_, rfl⟩
      have r1 : (if (10 : Int) < (x.length : Int) then (10 : Int) else (x.length : Int)) = (u : Int) := by rw [List.length_take] at hu; split <;> omega
      have r2 : min (x.length : Int) 10 = (u : Int) := by rw [List.length_take] at hu; omega
      have r3 : u ≤ c8 := by have := hrow.cap; rw [List.length_take] at hu; omega
      have r4 := hrow.mx
      have hel := Lib.hid (show Row bc 1 wb A8 (rw10 x).length c8 (rw10 x) from hrow.take 10)
      have hnx := Lib.hid (show (K ++ [RwP.mk (rw10 x) A8 c8]).map RwP.l = (O.take (k + 1)).map rw10 by rw [List.map_append, hL, List.take_add_one, hx, List.map_append]; rfl)
      have hcl : RwP.cells (RwP.mk (rw10 x) A8 c8) = [.slice A8 u c8] := by unfold RwP.cells rw10; simp only; rw [hu]
      have hlen9 := Lib.hid hlenK
      have own8 := Lib.hid hown
      have b8 := Lib.hid hb
      replace hin := Lib.hid hin
      replace hcl := Lib.hid hcl
      replace hx := Lib.hid hx
      replace hL := Lib.hid hL
      replace hu := Lib.hid hu
      clear hown hb hrow hlenK
      obtain ⟨w9, hw9⟩ : ∃ W, W = wr.alloc (.cells #[.slice A8 u c8] 44) := ⟨_, rfl⟩
      have b9 : Below wr.heap.size wr w9 := by rw [hw9]; exact (Below.refl _ _).alloc (Nat.le_refl _) _
      have hsl := Lib.hid (show Sl w9 1 (some ⟨wr.heap.size, 0, none⟩) ([RwP.mk (rw10 x) A8 c8].map RwP.cells) from bx_sl (T := 44) (vals := #[.slice A8 u c8]) (by rw [hw9]; exact Bx.new _ _ _ rfl) (by show _ = (RwP.cells (RwP.mk (rw10 x) A8 c8) ++ []); rw [hcl.out]; rfl) (by intro c hc; simp at hc; subst hc; rfl))
      have own9 := Lib.hid (own8.out.below b9)
      have hb9 := Lib.hid (bt b8.out b9)
      have hn1 : Hid ((K.map RwP.cells).length + ([RwP.mk (rw10 x) A8 c8].map RwP.cells).length ≤ 1000000) := Lib.hid (by rw [List.length_map]; have := hlen9.out; simp; omega)
      have hvl : Hid ((K.map RwP.cells).length = K.length) := Lib.hid (by rw [List.length_map])
      have hB2 : Hid (w.heap.size ≤ w9.heap.size) := Lib.hid hb9.out.size
      clear b9
      go_wp2_with (at_builtin; rw [← hw9]; (refine wpList_append_sl rfl (.tmp 16) (.tmp 22) 36 rfl elRB17 (by rfl) own9.out (by rfl) (by rfl) hsl.out (wholeR _) (fun h => by cases h) hn1.out hB2.out ?_); intro v' w4 own1 grow1 _)
      have b4 : Below w.heap.size w w4 := hb9.out.grown grow1 hB2.out (fun j hj => (own9.out.lt j hj).1)
      go_roundw
      case rel =>
        refine ⟨k + 1, K ++ [RwP.mk (rw10 x) A8 c8], by omega, by go_num, hnx.out, fun y hy => ?_, own_snoc own1, b4⟩
        rcases List.mem_append.1 hy with hy | hy
        · exact hin.out y hy
        · obtain rfl := List.mem_singleton.1 hy; exact hel.out
      case measure => simp [intOf]; omega
    · obtain rfl : k = m := by omega
      have hKm : K.length = k := hlenK
      have hfin := Lib.hid (show K.map RwP.l = fewO O by rw [hL]; unfold fewO; congr 1; rw [List.take_eq_take_iff]; have := hm.out; rw [List.length_take] at this; omega)
      replace hown := Lib.hid hown
      replace hb := Lib.hid hb
      replace hin := Lib.hid hin
      replace hL := Lib.hid hL
      replace hlenK := Lib.hid hlenK
      replace hKm := Lib.hid hKm
      go_wp2_with fail
      go_ret
      refine ⟨A3, c3, by rw [hKm.out]; rfl, hb.out, fun X W' hX hg hB => ?_⟩
      have h9 := hown.out.kept hg (.inr (fun q => by have := (hown.out.lt _ q).1; omega))
      have := RowL.new (g := bc) (rs := K) (by rw [hKm.out] at h9; exact h9) (fun x hx => (hin.out x hx).below hB)
      rw [hfin.out] at this
      exact this
/- Two segments. -/
def k17 : List Lk := [⟨0, 1, true⟩, ⟨1, 1, true⟩]
def l17 : L := ⟨2, [⟨1, k17⟩], []⟩
theorem l17_why : whyO l17 [[true, true]] [0] = 0 := by kernel_rfl
theorem l17_st : stpR (l17.op [[true, true]]) 0 = [0, 1] := by kernel_rfl
theorem l17_small : Small l17 := ⟨by decide, fun p hp => by simp [l17] at hp; subst hp; decide, by decide⟩
theorem l17_row {w : World} {b g : Nat} (h1 : Bx w b 57 #[.int .i64 0, .int .i64 1, .bool true, .int .i64 1, .int .i64 1, .bool true]) (h2 : Bx w g 60 #[.int .i64 1, .slice (some ⟨b, 0, none⟩) 2 2]) :
    LanR w l17 (some ⟨g, 0, none⟩) 1 none 0 := by
  have hk : Row kc 3 w (some ⟨b, 0, none⟩) 2 2 k17 := ⟨rfl, bx_sl h1 rfl (fun c hc => by simp [k17] at hc; rcases hc with rfl | rfl <;> rfl), Nat.le_refl _, fun e => (by cases e), by omega⟩
  refine ⟨⟨rfl, by decide, fun e => (by cases e), by omega, [⟨⟨1, k17⟩, some ⟨b, 0, none⟩, 2⟩], rfl, bx_sl h2 rfl (fun c hc => by simp [PP.cells] at hc; subst hc; rfl), fun x hx => ?_⟩, Row.zero w⟩
  simp only [List.mem_cons, List.not_mem_nil, or_false] at hx
  subst hx; exact hk
theorem l17_rows {w : World} {b1 g : Nat} (h1 : Bx w b1 4 #[.bool true, .bool true]) (h3 : Bx w g 44 #[.slice (some ⟨b1, 0, none⟩) 2 2]) :
    RowL bc w (some ⟨g, 0, none⟩) 1 1 ([[true, true]] : List (List Bool)) := by
  have r1 : Row bc 1 w (some ⟨b1, 0, none⟩) 2 2 ([true, true] : List Bool) := ⟨rfl, bx_sl h1 rfl (fun c hc => by simp at hc; subst hc; rfl), Nat.le_refl _, fun e => (by cases e), by omega⟩
  refine ⟨rfl, by decide, fun e => (by cases e), by omega, [⟨[true, true], some ⟨b1, 0, none⟩, 2⟩], rfl, bx_sl h3 rfl (fun c hc => by simp [RwP.cells] at hc; subst hc; rfl), fun x hx => ?_⟩
  simp only [List.mem_cons, List.not_mem_nil, or_false] at hx
  subst hx; exact r1
set_option maxHeartbeats 8000000 in
theorem o_alive17 (w : World) : Calls Try.prog 29 #[] w fun e w' => e = .returned (.bool true) ∧ Below w.heap.size w w' := by
  obtain ⟨w1, hw1⟩ : ∃ W, W = w.alloc (.cells #[.int .i64 0, .int .i64 1, .bool true, .int .i64 1, .int .i64 1, .bool true] 57) := ⟨_, rfl⟩
  obtain ⟨w2, hw2⟩ : ∃ W, W = w1.alloc (.cells #[.int .i64 1, .slice (some ⟨w.heap.size, 0, none⟩) 2 2] 60) := ⟨_, rfl⟩
  obtain ⟨w3, hw3⟩ : ∃ W, W = w2.alloc (.cells #[.int .i64 2, .slice (some ⟨w.heap.size + 1, 0, none⟩) 1 1, .slice none 0 0] 25) := ⟨_, rfl⟩
  obtain ⟨w4, hw4⟩ : ∃ W, W = w3.alloc (.cells #[.bool true, .bool true] 4) := ⟨_, rfl⟩
  obtain ⟨w5, hw5⟩ : ∃ W, W = w4.alloc (.cells #[.slice (some ⟨w.heap.size + 1 + 1 + 1, 0, none⟩) 2 2] 44) := ⟨_, rfl⟩
  have z1 : w1.heap.size = w.heap.size + 1 := by rw [hw1]; simp
  have z2 : w2.heap.size = w.heap.size + 1 + 1 := by rw [hw2]; simp [z1]
  have z3 : w3.heap.size = w.heap.size + 1 + 1 + 1 := by rw [hw3]; simp [z2]
  have z4 : w4.heap.size = w.heap.size + 1 + 1 + 1 + 1 := by rw [hw4]; simp [z3]
  have b1 : Below w.heap.size w w1 := by rw [hw1]; exact (Below.refl _ _).alloc (Nat.le_refl _) _
  have b2 : Below w1.heap.size w1 w2 := by rw [hw2]; exact (Below.refl _ _).alloc (Nat.le_refl _) _
  have b3 : Below w2.heap.size w2 w3 := by rw [hw3]; exact (Below.refl _ _).alloc (Nat.le_refl _) _
  have b4 : Below w3.heap.size w3 w4 := by rw [hw4]; exact (Below.refl _ _).alloc (Nat.le_refl _) _
  have b5 : Below w4.heap.size w4 w5 := by rw [hw5]; exact (Below.refl _ _).alloc (Nat.le_refl _) _
  have B5 := Lib.hid (bt (bt (bt (bt b1 b2) b3) b4) b5)
  have hL := ((l17_row (w := w2) (b := w.heap.size) (g := w.heap.size + 1) ((show Bx w1 w.heap.size 57 #[.int .i64 0, .int .i64 1, .bool true, .int .i64 1, .int .i64 1, .bool true] by rw [hw1]; exact Bx.new _ _ _ rfl).below b2) (by rw [hw2]; exact Bx.new _ _ _ z1)).below b3).below b4 |>.below b5
  have hO := l17_rows (w := w5) (b1 := w.heap.size + 1 + 1 + 1) (g := w.heap.size + 1 + 1 + 1 + 1) ((show Bx w4 (w.heap.size + 1 + 1 + 1) 4 #[.bool true, .bool true] by rw [hw4]; exact Bx.new _ _ _ z3).below b5) (by rw [hw5]; exact Bx.new _ _ _ z4)
  have hC := o_steps_ok hL l17_small hO (by decide) (by decide) 0 l17_why
  rw [l17_st] at hC
  replace hC := Lib.hid (show Calls Try.prog 24 #[.agg #[.int .i64 2, .slice (some ⟨w.heap.size + 1, 0, none⟩) 1 1, .slice none 0 0], .slice (some ⟨w.heap.size + 1 + 1 + 1 + 1, 0, none⟩) 1 1, .int .i64 0] w5 _ from hC)
  clear hL hO b1 b2 b3 b4 b5 z1 z2 z3 z4
  go_enter Try.func29, Try.ntmps29
  go_wp2_with fail
  rw [← hw1, ← hw2, ← hw3, ← hw4, ← hw5]
  clear hw1 hw2 hw3 hw4 hw5
  go_at_call 24
  (with_reducible refine hC.out.mono ?_)
  rintro e w6 ⟨A6, c6, rfl, r6, hb6⟩
  replace r6 : Row ic 1 w6 A6 2 c6 ([0, 1] : List Int) := r6
  have B6 := Lib.hid (bt B5.out hb6)
  obtain ⟨w7, hw7⟩ : ∃ W, W = w6.alloc (.cells #[.int .i64 0, .int .i64 1] 3) := ⟨_, rfl⟩
  have b7 : Below w6.heap.size w6 w7 := by rw [hw7]; exact (Below.refl _ _).alloc (Nat.le_refl _) _
  have hS := Lib.hid (r_same (r6.below b7) (show Row ic 1 w7 (some ⟨w6.heap.size, 0, none⟩) 2 2 ([0, 1] : List Int) by rw [hw7]; exact row_one w6 [0, 1] (by decide)) (by decide) (b := true) (by decide))
  have B7 := Lib.hid (bt B6.out b7)
  clear hb6 b7 r6 hC
  show _
  go_wp2_with fail
  rw [← hw7]
  clear hw7
  go_at_call 31
  (with_reducible refine hS.out.mono ?_)
  rintro e w8 ⟨rfl, hb8⟩
  have B8 := Lib.hid (bt B7.out hb8)
  clear hb8
  go_wp2_with fail
  go_ret
  exact ⟨rfl, B8.out⟩
end Go.Proofs.Ytgcmklliafcffaa.LanP
