/-
  Contracts of footwaylaw16's few, alive.
-/
import Derived.Test.YtplgaenfcaphnaaTreeR
import Derived.BigRegion
namespace Go.Proofs.Ytplgaenfcaphnaa.LanP
open Go.RowKit Go.Sort Go.Proofs.Ytplgaenfcaphnaa.SliceP Go.Proofs.Ytplgaenfcaphnaa.BoxP
open Go.Proofs.Ytplgaenfcaphnaa.IntP (RowI SlI OwnI)
open Go.Proofs.Ytplgaenfcaphnaa.BoolP (RowB SlB OwnB)
open Go.Proofs.Ytplgaenfcaphnaa.MacP (classI class_yes class_no ref_right_no ref_right_yes ref_class)
open Go.Proofs.Ytplgaenfcaphnaa.LruP (hasI placeI has_more has_hit place_hit place_none place_geq has_true has_false)
set_option linter.unusedVariables false
set_option maxRecDepth 100000
def P.few (p : P) : P := ⟨p.id, p.ports.take 10⟩
def L.few (l : L) : L := ⟨l.segs, (l.plans.take 8).map P.few, l.hosts.take 12⟩
theorem few_small (l : L) : Small l.few := ⟨by unfold L.few; simp; omega, fun p hp => by
  unfold L.few at hp
  obtain ⟨q, _, rfl⟩ := List.mem_map.1 hp
  unfold P.few; simp; omega, by unfold L.few; simp; omega⟩
theorem few_succ {l : List P} {k : Nat} {x : P} (hx : l[k]? = some x) : (l.take (k + 1)).map P.few = (l.take k).map P.few ++ [x.few] := by rw [List.take_add_one, hx, List.map_append]; rfl
theorem RowP.new {w' : World} {B : Nat} {A : Option Addr} {n c : Nat} {L : List PP} (h : Own w' B 61 2 (.slice A n c) (L.map PP.cells)) (hi : ∀ x ∈ L, x.in_ w') : RowP w' A n c (L.map PP.p) := by
  have r := Row.own (g := PP.cells) h (by decide)
  exact ⟨by rw [List.length_map]; exact r.len, r.cap, r.nil, r.mx, L, rfl, r.sl, hi⟩
set_option maxHeartbeats 16000000 in
theorem o_few2 {l : L} {A : Option Addr} {c : Nat} {B : Option Addr} {d : Nat} {w : World} {wb : World} (hr : LanR wb l A c B d) (hb0 : Below wb.heap.size wb w) :
    Calls Try.prog 7 #[lv l A c B d] w fun e w' => ∃ (A' : Option Addr) (c' : Nat) (K : List PP), e = .returned (lv l.few A' c' B d) ∧ Below w.heap.size w w' ∧ l.few.plans = K.map PP.p ∧ ∀ X W', X < w.heap.size → w'.grownBy W' (some X) → Below wb.heap.size wb W' → LanR W' l.few A' c' B d ∧ Sl W' 2 A' (K.map PP.cells) ∧ ∀ x ∈ K, x.in_ W' := by
  obtain ⟨m, hm⟩ : ∃ m, (l.plans.take 8).length = m := ⟨_, rfl⟩
  obtain ⟨n, hn⟩ : ∃ n, (l.hosts.take 12).length = n := ⟨_, rfl⟩
  have q1 : (if (8 : Int) < (l.plans.length : Int) then (8 : Int) else (l.plans.length : Int)) = (m : Int) := by rw [List.length_take] at hm; split <;> omega
  have q2 : min (l.plans.length : Int) 8 = (m : Int) := by rw [List.length_take] at hm; omega
  have q3 : (if (12 : Int) < (l.hosts.length : Int) then (12 : Int) else (l.hosts.length : Int)) = (n : Int) := by rw [List.length_take] at hn; split <;> omega
  have q4 : min (l.hosts.length : Int) 12 = (n : Int) := by rw [List.length_take] at hn; omega
  have hmc : m ≤ c := by have := hr.plans.cap; rw [List.length_take] at hm; omega
  have hnd : n ≤ d := by have := hr.hosts.cap; rw [List.length_take] at hn; omega
  have hcm := hr.plans.mx
  have hdm := hr.hosts.mx
  have hml : m ≤ 8 := by rw [List.length_take] at hm; omega
  have H := Lib.hid hr
  have HP := Lib.hid (show RowP wb A (l.plans.take 8).length c (l.plans.take 8) from hr.plans.take 8)
  obtain ⟨w0, hw0⟩ : ∃ W, W = (w.alloc (.cells #[.int .i64 l.segs, .slice A l.plans.length c, .slice B l.hosts.length d] 25)).alloc (.cells #[.int .i64 0, .slice none 0 0, .slice none 0 0] 25) := ⟨_, rfl⟩
  obtain ⟨b2, hb2⟩ : ∃ b, b = w.heap.size + 1 := ⟨_, rfl⟩
  have B0 := Lib.hid (show Below w.heap.size w w0 by rw [hw0]; exact ((Below.refl _ _).alloc (Nat.le_refl _) _).alloc (by simp) _)
  have X0 := Lib.hid (show Bx w0 w.heap.size 25 #[.int .i64 l.segs, .slice A l.plans.length c, .slice B l.hosts.length d] by rw [hw0]; exact (Bx.new _ _ _ rfl).alloc _)
  have Y0 := Lib.hid (show Bx w0 b2 25 #[.int .i64 0, .slice none 0 0, .slice none 0 0] by rw [hw0, hb2]; exact Bx.new _ _ _ (by simp))
  have hd2 := Lib.hid (show w.heap.size ≤ b2 ∧ w.heap.size ≠ b2 by omega)
  obtain ⟨ps, hps⟩ : ∃ ps, l.plans.take 8 = ps := ⟨_, rfl⟩
  rw [hps] at hm HP
  subst hm
  replace hn := Lib.hid hn
  replace hb0 := Lib.hid hb0
  clear hr
  go_enter Try.func7, Try.ntmps7
  go_upto_region 2 with fail
  rw [← hw0, ← hb2]
  clear hw0 hb2
  have x0 := X0.out.c (i := 0) rfl
  have x1 := X0.out.c (i := 1) rfl
  have x2 := X0.out.c (i := 2) rfl
  have zz := X0.out.lt
  have hsz0 := Lib.hid (show w.heap.size < w0.heap.size ∧ b2 < w0.heap.size from ⟨X0.out.lt, Y0.out.lt⟩)
  go_wp2_with fail
  clear x0 x1 x2 zz
  go_loopw [3, 14] (fun v i wr => ∃ (k : Nat) (L : List PP), k ≤ ps.length ∧ i = .int .i64 k ∧ L.map PP.p = (ps.take k).map P.few ∧ (∀ x ∈ L, x.in_ wb) ∧ Own wr w0.heap.size 61 2 v (L.map PP.cells) ∧ w0.heap.size ≤ wr.heap.size ∧ Bx wr w.heap.size 25 #[.int .i64 l.segs, .slice A l.plans.length c, .slice B l.hosts.length d] ∧ Bx wr b2 25 #[.int .i64 0, .slice none 0 0, .slice none 0 0] ∧ Below w.heap.size w wr) (fun _ i _ => ps.length - (intOf i).toNat)
  case atStart => exact ⟨0, [], by omega, rfl, rfl, (fun x hx => by cases hx), Own.nil _ _ _ _, Nat.le_refl _, X0.out, Y0.out, B0.out⟩
  case round =>
    clear X0 Y0 B0
    obtain ⟨k, L, hk, rfl, hL, hin, hown, hsz, hX, hY, hb⟩ := hrel
    obtain ⟨wo, hwo⟩ : ∃ W, W = wr := ⟨_, rfl⟩
    subst hwo
    obtain ⟨A3, c3, hv3⟩ := own_form hown
    subst hv3
    have hlenL : L.length = k := by have := congrArg List.length hL; rw [List.length_map, List.length_map, List.length_take] at this; omega
    by_cases hkn : k < ps.length
    · have hkl : (k : Int) < (ps.length : Int) := by omega
      obtain ⟨x, hx⟩ : ∃ x, ps[k]? = some x := ⟨_, List.getElem?_eq_getElem hkn⟩
      obtain ⟨bS, oS, A8, c8, hAS, hbS, q8_0, q8_1, hrow⟩ := RowP.at_ HP.out hx
      subst hAS
      have hbb := bt hb0.out hb
      replace q8_0 := (hbb.cell (p := ⟨bS, _, none⟩) hbS).trans q8_0
      replace q8_1 := (hbb.cell (p := ⟨bS, _, none⟩) hbS).trans q8_1
      replace hbS := Nat.lt_of_lt_of_le hbS hbb.size
      clear hbb
      obtain ⟨u, hu⟩ : ∃ u, (x.ports.take 10).length = u := ⟨_, rfl⟩
      have r1 : (if (10 : Int) < (x.ports.length : Int) then (10 : Int) else (x.ports.length : Int)) = (u : Int) := by rw [List.length_take] at hu; split <;> omega
      have r2 : min (x.ports.length : Int) 10 = (u : Int) := by rw [List.length_take] at hu; omega
      have r3 : u ≤ c8 := by have := hrow.cap; rw [List.length_take] at hu; omega
      have r4 := hrow.mx
      have hnx := few_succ hx
      rw [← hL] at hnx
      have hel := Lib.hid (show PP.in_ wb ⟨x.few, A8, c8⟩ from hrow.take 10)
      have hcl : PP.cells ⟨x.few, A8, c8⟩ = [.int .i64 x.id, .slice A8 u c8] := by rw [← hu]; rfl
      obtain ⟨w8, hw8⟩ : ∃ W, W = wo.alloc (.cells #[.int .i64 x.id, .slice A8 u c8] 61) := ⟨_, rfl⟩
      have bb8 : Below wo.heap.size wo w8 := by rw [hw8]; exact (Below.refl _ _).alloc (Nat.le_refl _) _
      have b8 := Lib.hid (bt hb bb8)
      have Z8 := Lib.hid (show Bx w8 wo.heap.size 61 #[.int .i64 x.id, .slice A8 u c8] by rw [hw8]; exact Bx.new _ _ _ rfl)
      have own8 := Lib.hid (hown.below bb8)
      have X8 := Lib.hid (hX.below bb8)
      have Y8 := Lib.hid (hY.below bb8)
      have hsz8 := Lib.hid (Nat.le_trans hsz bb8.size)
      have hlen9 := Lib.hid hlenL
      replace hin := Lib.hid hin
      replace hnx := Lib.hid hnx
      replace hcl := Lib.hid hcl
      replace hx := Lib.hid hx
      replace hL := Lib.hid hL
      replace hu := Lib.hid hu
      clear hown hX hY hb bb8 hsz hrow hlenL
      go_upto_region 6 with fail
      rw [← hw8]
      clear hw8 q8_0 q8_1 hbS r1 r2 r3 r4
      have o8_0 := Z8.out.c (i := 0) rfl
      have o8_1 := Z8.out.c (i := 1) rfl
      have zz8 := Z8.out.lt
      obtain ⟨w9, hw9⟩ : ∃ W, W = w8.alloc (.cells #[.int .i64 x.id, .slice A8 u c8] 61) := ⟨_, rfl⟩
      have b9 : Below w8.heap.size w8 w9 := by rw [hw9]; exact (Below.refl _ _).alloc (Nat.le_refl _) _
      have hsl := Lib.hid (show Sl w9 2 (some ⟨w8.heap.size, 0, none⟩) ([PP.mk x.few A8 c8].map PP.cells) from bx_sl (T := 61) (vals := #[.int .i64 x.id, .slice A8 u c8]) (by rw [hw9]; exact Bx.new _ _ _ rfl) (by show _ = (PP.cells ⟨x.few, A8, c8⟩ ++ []); rw [hcl.out]; rfl) (by intro c hc; simp at hc; subst hc; rfl))
      have own9 := Lib.hid (own8.out.below b9)
      have hb9 := Lib.hid (bt b8.out b9)
      have X9 := Lib.hid (X8.out.below b9)
      have Y9 := Lib.hid (Y8.out.below b9)
      have hn1 : Hid ((L.map PP.cells).length + ([PP.mk x.few A8 c8].map PP.cells).length ≤ 1000000) := Lib.hid (by rw [List.length_map]; have := hlen9.out; simp; omega)
      have hvl : Hid ((L.map PP.cells).length = L.length) := Lib.hid (by rw [List.length_map])
      have hB2 : Hid (w0.heap.size ≤ w9.heap.size) := Lib.hid (Nat.le_trans hsz8.out b9.size)
      clear b9
      go_wp2_with (at_builtin; rw [← hw9]; (refine wpList_append_sl rfl (.tmp 26) (.tmp 28) 22 rfl elP (by rfl) own9.out (by rfl) (by rfl) hsl.out (wholeP _) (fun h => by cases h) hn1.out hB2.out ?_); intro v' w4 own1 grow1 _)
      have hgr : ∀ j, (Value.slice A3 L.length c3).ownBlock = some j → w0.heap.size ≤ j := fun j hj => (own9.out.lt j hj).1
      have b4 : Below w.heap.size w w4 := hb9.out.grown grow1 hb9.out.size (fun j hj => by have := hgr j hj; have := hsz0.out; omega)
      have X4 := X9.out.grown grow1 (fun e => by have := hgr _ e.symm; have := hsz0.out; omega)
      have Y4 := Y9.out.grown grow1 (fun e => by have := hgr _ e.symm; have := hsz0.out; omega)
      have hsz4 := Nat.le_trans hB2.out grow1.size
      go_roundw
      case rel =>
        refine ⟨k + 1, L ++ [⟨x.few, A8, c8⟩], by omega, by go_num, by rw [hnx.out, List.map_append]; rfl, fun y hy => ?_, by rw [List.map_append]; exact own1, hsz4, X4, Y4, b4⟩
        rcases List.mem_append.1 hy with hy | hy
        · exact hin.out y hy
        · obtain rfl := List.mem_singleton.1 hy; exact hel.out
      case measure => simp [intOf]; omega
    · obtain rfl : k = ps.length := by omega
      rw [List.take_length] at hL
      have hPl : l.few.plans = L.map PP.p := by rw [hL, ← hps]; rfl
      have hnp : l.few.plans.length = L.length := by rw [hPl, List.length_map]
      have hnh : l.few.hosts.length = n := hn.out
      have hown9 := Lib.hid hown
      have hho := Lib.hid (show Row hc 2 wb B l.few.hosts.length d l.few.hosts from H.out.hosts.take 12)
      have hbw := Lib.hid hb
      have x0 := hX.c (i := 0) rfl
      have x1 := hX.c (i := 1) rfl
      have x2 := hX.c (i := 2) rfl
      have f0 := hX.f 0
      have f1 := hX.f 1
      have f2 := hX.f 2
      have y0 := hY.c (i := 0) rfl
      have y1 := hY.c (i := 1) rfl
      have y2 := hY.c (i := 2) rfl
      have g0 := hY.f 0
      have g1 := hY.f 1
      have g2 := hY.f 2
      have zz := hX.lt
      have z2 := hY.lt
      have hfar := Lib.hid (show ∀ a, A3 = some a → w0.heap.size ≤ a.block from fun a ha => (own_far hown a ha).1)
      have hne1 : ¬ b2 = w.heap.size := fun e => hd2.out.2 e.symm
      have hne2 : ¬ w.heap.size = b2 := fun e => hd2.out.2 e
      replace hPl := Lib.hid hPl
      replace hL := Lib.hid hL
      replace hin := Lib.hid hin
      replace hnp := Lib.hid hnp
      replace hnh := Lib.hid hnh
      replace hlenL := Lib.hid hlenL
      have XX := Lib.hid hX
      have YY := Lib.hid hY
      clear hown hX hY hb hsz
      go_upto_region 8 with fail
      go_region
      obtain ⟨w5, hw5⟩ : ∃ W, W = ((wo.setCell ⟨w.heap.size, 1, none⟩ (.slice A3 L.length c3)).setCell ⟨w.heap.size, 2, none⟩ (.slice B n d)).drew := ⟨_, rfl⟩
      have hdr : ∀ W : World, Below W.heap.size W W.drew := fun W => (Below.refl _ _).drew
      have X5 := (show Bx w5 w.heap.size 25 #[.int .i64 l.segs, .slice A3 L.length c3, .slice B n d] by rw [hw5]; exact ((XX.out.set 1 (.slice A3 L.length c3)).set 2 (.slice B n d)).below (hdr _))
      have Y5 := (show Bx w5 b2 25 #[.int .i64 0, .slice none 0 0, .slice none 0 0] by rw [hw5]; exact ((YY.out.other hne1 1 (.slice A3 L.length c3)).other hne1 2 (.slice B n d)).below (hdr _))
      have B5 := Lib.hid (show Below w.heap.size w w5 by rw [hw5]; exact ((hbw.out.setCell (Nat.le_refl _) (.slice A3 L.length c3)).setCell (Nat.le_refl _) (.slice B n d)).drew)
      have hob : (Value.slice A3 L.length c3).ownBlock = none ∨ (Value.slice A3 L.length c3).ownBlock ≠ some w.heap.size := .inr (fun e => by have := (hown9.out.lt _ e).1; have := hsz0.out; omega)
      have hob2 : (Value.slice A3 L.length c3).ownBlock = none ∨ (Value.slice A3 L.length c3).ownBlock ≠ some b2 := .inr (fun e => by have := (hown9.out.lt _ e).1; have := hsz0.out; omega)
      have own5 := Lib.hid (show Own w5 w0.heap.size 61 2 (.slice A3 L.length c3) (L.map PP.cells) by rw [hw5]; exact ((hown9.out.kept (setCell_grown _ _ _ _) hob).kept (setCell_grown _ _ _ _) hob).below (hdr _))
      replace hob := Lib.hid hob
      replace hob2 := Lib.hid hob2
      rw [← hw5]
      clear hw5 hdr x0 x1 x2 f0 f1 f2 y0 y1 y2 g0 g1 g2 zz z2 XX YY
      have x0 := X5.c (i := 0) rfl
      have x1 := X5.c (i := 1) rfl
      have x2 := X5.c (i := 2) rfl
      have y0 := Y5.c (i := 0) rfl
      have y1 := Y5.c (i := 1) rfl
      have y2 := Y5.c (i := 2) rfl
      have g0 := Y5.f 0
      have g1 := Y5.f 1
      have g2 := Y5.f 2
      have zz := X5.lt
      have z2 := Y5.lt
      replace X5 := Lib.hid X5
      replace Y5 := Lib.hid Y5
      go_wp2_with fail
      obtain ⟨w6, hw6⟩ : ∃ W, W = ((w5.setCell ⟨b2, 0, none⟩ (.int .i64 l.segs)).setCell ⟨b2, 1, none⟩ (.slice A3 L.length c3)).setCell ⟨b2, 2, none⟩ (.slice B n d) := ⟨_, rfl⟩
      have Y6 := (show Bx w6 b2 25 #[.int .i64 l.segs, .slice A3 L.length c3, .slice B n d] by rw [hw6]; exact Bx.three Y5.out)
      have B6 := Lib.hid (show Below w.heap.size w w6 by rw [hw6]; exact ((B5.out.setCell hd2.out.1 (.int .i64 l.segs)).setCell hd2.out.1 (.slice A3 L.length c3)).setCell hd2.out.1 (.slice B n d))
      have own6 := Lib.hid (show Own w6 w0.heap.size 61 2 (.slice A3 L.length c3) (L.map PP.cells) by rw [hw6]; exact ((own5.out.kept (setCell_grown _ _ _ _) hob2.out).kept (setCell_grown _ _ _ _) hob2.out).kept (setCell_grown _ _ _ _) hob2.out)
      rw [← hw6]
      clear hw6 x0 x1 x2 y0 y1 y2 g0 g1 g2 zz z2
      have k0 := Y6.c (i := 0) rfl
      have k1 := Y6.c (i := 1) rfl
      have k2 := Y6.c (i := 2) rfl
      replace Y6 := Lib.hid Y6
      refine bodyPost_ret (v := .agg #[.int .i64 l.segs, .slice A3 L.length c3, .slice B n d]) (by simp [results, Try.results7, go_sem, k0, k1, k2]) rfl ⟨A3, c3, L, ?_, B6.out, hPl.out, fun X W' hX hg hbW => ?_⟩
      · show _ = Ending.returned (.agg #[.int .i64 l.few.segs, .slice A3 l.few.plans.length c3, .slice B l.few.hosts.length d])
        rw [hnp.out, hnh.out]; rfl
      · have own7 := own6.out.kept hg (.inr (fun e => by have := (own6.out.lt _ e).1; have := hsz0.out; omega))
        refine ⟨⟨?_, hho.out.below hbW⟩, own7.sl (by decide), fun x hx => (hin.out x hx).below hbW⟩
        rw [hnp.out, hPl.out]
        exact RowP.new own7 (fun x hx => (hin.out x hx).below hbW)
theorem o_few {l : L} {A : Option Addr} {c : Nat} {B : Option Addr} {d : Nat} {w : World} {wb : World} (hr : LanR wb l A c B d) (hb0 : Below wb.heap.size wb w) :
    Calls Try.prog 7 #[lv l A c B d] w fun e w' => ∃ A' c', e = .returned (lv l.few A' c' B d) ∧ Below w.heap.size w w' ∧ ∀ X W', X < w.heap.size → w'.grownBy W' (some X) → Below wb.heap.size wb W' → LanR W' l.few A' c' B d :=
  (o_few2 hr hb0).mono fun e w' ⟨A', c', K, h1, h2, h3, h4⟩ => ⟨A', c', h1, h2, fun X W' a b c => (h4 X W' a b c).1⟩
end Go.Proofs.Ytplgaenfcaphnaa.LanP
