/-
  Contracts of footwaylaw16's few, alive.
-/
import Derived.Test.YtplgaenfcaphnaaTreeR
import Derived.BigRegion
import Derived.Test.YtplgaenfcaphnaaTreeV
namespace Go.Proofs.Ytplgaenfcaphnaa.LanP
open Go.RowKit Go.Sort Go.Proofs.Ytplgaenfcaphnaa.SliceP Go.Proofs.Ytplgaenfcaphnaa.BoxP
open Go.Proofs.Ytplgaenfcaphnaa.IntP (RowI SlI OwnI)
open Go.Proofs.Ytplgaenfcaphnaa.BoolP (RowB SlB OwnB)
open Go.Proofs.Ytplgaenfcaphnaa.MacP (classI class_yes class_no ref_right_no ref_right_yes ref_class)
open Go.Proofs.Ytplgaenfcaphnaa.LruP (hasI placeI has_more has_hit place_hit place_none place_geq has_true has_false)
set_option linter.unusedVariables false
set_option maxRecDepth 100000
def P.few (p : P) : P := ⟨p.id, p.ports.take 10⟩
def L.few (l : L) : L := ⟨l.segs, (l.plans.take 8).map P.few, l.hosts.take 12⟩
theorem few_small (l : L) : Small l.few := ⟨by unfold L.few; simp; omega, fun p hp => by
  unfold L.few at hp
  obtain ⟨q, _, rfl⟩ := List.mem_map.1 hp
  unfold P.few; simp; omega, by unfold L.few; simp; omega⟩
theorem few_succ {l : List P} {k : Nat} {x : P} (hx : l[k]? = some x) : (l.take (k + 1)).map P.few = (l.take k).map P.few ++ [x.few] := by rw [List.take_add_one, hx, List.map_append]; rfl
theorem RowP.new {w' : World} {B : Nat} {A : Option Addr} {n c : Nat} {L : List PP} (h : Own w' B 61 2 (.slice A n c) (L.map PP.cells)) (hi : ∀ x ∈ L, x.in_ w') : RowP w' A n c (L.map PP.p) := by
  have r := Row.own (g := PP.cells) h (by decide)
  exact ⟨by rw [List.length_map]; exact r.len, r.cap, r.nil, r.mx, L, rfl, r.sl, hi⟩
set_option maxHeartbeats 16000000 in
theorem o_few2 {l : L} {A : Option Addr} {c : Nat} {B : Option Addr} {d : Nat} {w : World} {wb : World} (hr : LanR wb l A c B d) (hb0 : Below wb.heap.size wb w) :
    Calls Try.prog 7 #[lv l A c B d] w fun e w' => ∃ (A' : Option Addr) (c' : Nat) (K : List PP), e = .returned (lv l.few A' c' B d) ∧ Below w.heap.size w w' ∧ l.few.plans = K.map PP.p ∧ ∀ X W', X < w.heap.size → w'.grownBy W' (some X) → Below wb.heap.size wb W' → LanR W' l.few A' c' B d ∧ Sl W' 2 A' (K.map PP.cells) ∧ ∀ x ∈ K, x.in_ W' := by
  obtain ⟨m, hm⟩ : ∃ m, (l.plans.take 8).length = m := ⟨_, rfl⟩
  obtain ⟨n, hn⟩ : ∃ n, (l.hosts.take 12).length = n := ⟨_, rfl⟩
  have q1 : (if (8 : Int) < (l.plans.length : Int) then (8 : Int) else (l.plans.length : Int)) = (m : Int) := by rw [List.length_take] at hm; split <;> omega
  have q2 : min (l.plans.length : Int) 8 = (m : Int) := by rw [List.length_take] at hm; omega
  have q3 : (if (12 : Int) < (l.hosts.length : Int) then (12 : Int) else (l.hosts.length : Int)) = (n : Int) := by rw [List.length_take] at hn; split <;> omega
  have q4 : min (l.hosts.length : Int) 12 = (n : Int) := by rw [List.length_take] at hn; omega
  have hmc : m ≤ c := by have := hr.plans.cap; rw [List.length_take] at hm; omega
  have hnd : n ≤ d := by have := hr.hosts.cap; rw [List.length_take] at hn; omega
  have hcm := hr.plans.mx
  have hdm := hr.hosts.mx
  have hml : m ≤ 8 := by rw [List.length_take] at hm; omega
  have H := Lib.hid hr
  have HP := Lib.hid (show RowP wb A (l.plans.take 8).length c (l.plans.take 8) from hr.plans.take 8)
  obtain ⟨w0, hw0⟩ : ∃ W, W = (w.alloc (.cells #[.int .i64 l.segs, .slice A l.plans.length c, .slice B l.hosts.length d] 25)).alloc (.cells #[.int .i64 0, .slice none 0 0, .slice none 0 0] 25) := ⟨_, rfl⟩
  obtain ⟨b2, hb2⟩ : ∃ b, b = w.heap.size + 1 := ⟨_, rfl⟩
  have B0 := Lib.hid (show Below w.heap.size w w0 by rw [hw0]; exact ((Below.refl _ _).alloc (Nat.le_refl _) _).alloc (by simp) _)
  have X0 := Lib.hid (show Bx w0 w.heap.size 25 #[.int .i64 l.segs, .slice A l.plans.length c, .slice B l.hosts.length d] by rw [hw0]; exact (Bx.new _ _ _ rfl).alloc _)
  have Y0 := Lib.hid (show Bx w0 b2 25 #[.int .i64 0, .slice none 0 0, .slice none 0 0] by rw [hw0, hb2]; exact Bx.new _ _ _ (by simp))
  have hd2 := Lib.hid (show w.heap.size ≤ b2 ∧ w.heap.size ≠ b2 by omega)
  obtain ⟨ps, hps⟩ : ∃ ps, l.plans.take 8 = ps := ⟨_, rfl⟩
  rw [hps] at hm HP
  subst hm
  replace hn := Lib.hid hn
  replace hb0 := Lib.hid hb0
  clear hr
  go_enter Try.func7, Try.ntmps7
  go_upto_region 2 with fail
  rw [← hw0, ← hb2]
  clear hw0 hb2
  have x0 := X0.out.c (i := 0) rfl
  have x1 := X0.out.c (i := 1) rfl
  have x2 := X0.out.c (i := 2) rfl
  have zz := X0.out.lt
  have hsz0 := Lib.hid (show w.heap.size < w0.heap.size ∧ b2 < w0.heap.size from ⟨X0.out.lt, Y0.out.lt⟩)
  go_wp2_with fail
  clear x0 x1 x2 zz
  go_loopw [3, 14] (fun v i wr => ∃ (k : Nat) (L : List PP), k ≤ ps.length ∧ i = .int .i64 k ∧ L.map PP.p = (ps.take k).map P.few ∧ (∀ x ∈ L, x.in_ wb) ∧ Own wr w0.heap.size 61 2 v (L.map PP.cells) ∧ w0.heap.size ≤ wr.heap.size ∧ Bx wr w.heap.size 25 #[.int .i64 l.segs, .slice A l.plans.length c, .slice B l.hosts.length d] ∧ Bx wr b2 25 #[.int .i64 0, .slice none 0 0, .slice none 0 0] ∧ Below w.heap.size w wr) (fun _ i _ => ps.length - (intOf i).toNat)
  case atStart => exact ⟨0, [], by omega, rfl, rfl, (fun x hx => by cases hx), Own.nil _ _ _ _, Nat.le_refl _, X0.out, Y0.out, B0.out⟩
  case round =>
    clear X0 Y0 B0
    obtain ⟨k, L, hk, rfl, hL, hin, hown, hsz, hX, hY, hb⟩ := hrel
    obtain ⟨wo, hwo⟩ : ∃ W, W = wr := ⟨_, rfl⟩
    subst hwo
    obtain ⟨A3, c3, hv3⟩ := own_form hown
    subst hv3
    have hlenL : L.length = k := by have := congrArg List.length hL; rw [List.length_map, List.length_map, List.length_take] at this; omega
    by_cases hkn : k < ps.length
    · have hkl : (k : Int) < (ps.length : Int) := by omega
      obtain ⟨x, hx⟩ : ∃ x, ps[k]? = some x := ⟨_, List.getElem?_eq_getElem hkn⟩
      obtain ⟨bS, oS, A8, c8, hAS, hbS, q8_0, q8_1, hrow⟩ := RowP.at_ HP.out hx
      subst hAS
      have hbb := bt hb0.out hb
      replace q8_0 := (hbb.cell (p := ⟨bS, _, none⟩) hbS).trans q8_0
      replace q8_1 := (hbb.cell (p := ⟨bS, _, none⟩) hbS).trans q8_1
      replace hbS := Nat.lt_of_lt_of_le hbS hbb.size
      clear hbb
      obtain ⟨u, hu⟩ : ∃ u, (x.ports.take 10).length = u := ⟨_, rfl⟩
      have r1 : (if (10 : Int) < (x.ports.length : Int) then (10 : Int) else (x.ports.length : Int)) = (u : Int) := by rw [List.length_take] at hu; split <;> omega
      have r2 : min (x.ports.length : Int) 10 = (u : Int) := by rw [List.length_take] at hu; omega
      have r3 : u ≤ c8 := by have := hrow.cap; rw [List.length_take] at hu; omega
      have r4 := hrow.mx
      have hnx := few_succ hx
      rw [← hL] at hnx
      have hel := Lib.hid (show PP.in_ wb ⟨x.few, A8, c8⟩ from hrow.take 10)
      have hcl : PP.cells ⟨x.few, A8, c8⟩ = [.int .i64 x.id, .slice A8 u c8] := by rw [← hu]; rfl
      obtain ⟨w8, hw8⟩ : ∃ W, W = wo.alloc (.cells #[.int .i64 x.id, .slice A8 u c8] 61) := ⟨_, rfl⟩
      have bb8 : Below wo.heap.size wo w8 := by rw [hw8]; exact (Below.refl _ _).alloc (Nat.le_refl _) _
      have b8 := Lib.hid (bt hb bb8)
      have Z8 := Lib.hid (show Bx w8 wo.heap.size 61 #[.int .i64 x.id, .slice A8 u c8] by rw [hw8]; exact Bx.new _ _ _ rfl)
      have own8 := Lib.hid (hown.below bb8)
      have X8 := Lib.hid (hX.below bb8)
      have Y8 := Lib.hid (hY.below bb8)
      have hsz8 := Lib.hid (Nat.le_trans hsz bb8.size)
      have hlen9 := Lib.hid hlenL
      replace hin := Lib.hid hin
      replace hnx := Lib.hid hnx
      replace hcl := Lib.hid hcl
      replace hx := Lib.hid hx
      replace hL := Lib.hid hL
      replace hu := Lib.hid hu
      clear hown hX hY hb bb8 hsz hrow hlenL
      go_upto_region 6 with fail
      rw [← hw8]
      clear hw8 q8_0 q8_1 hbS r1 r2 r3 r4
      have o8_0 := Z8.out.c (i := 0) rfl
      have o8_1 := Z8.out.c (i := 1) rfl
      have zz8 := Z8.out.lt
      obtain ⟨w9, hw9⟩ : ∃ W, W = w8.alloc (.cells #[.int .i64 x.id, .slice A8 u c8] 61) := ⟨_, rfl⟩
      have b9 : Below w8.heap.size w8 w9 := by rw [hw9]; exact (Below.refl _ _).alloc (Nat.le_refl _) _
      have hsl := Lib.hid (show Sl w9 2 (some ⟨w8.heap.size, 0, none⟩) ([PP.mk x.few A8 c8].map PP.cells) from bx_sl (T := 61) (vals := #[.int .i64 x.id, .slice A8 u c8]) (by rw [hw9]; exact Bx.new _ _ _ rfl) (by show _ = (PP.cells ⟨x.few, A8, c8⟩ ++ []); rw [hcl.out]; rfl) (by intro c hc; simp at hc; subst hc; rfl))
      have own9 := Lib.hid (own8.out.below b9)
      have hb9 := Lib.hid (bt b8.out b9)
      have X9 := Lib.hid (X8.out.below b9)
      have Y9 := Lib.hid (Y8.out.below b9)
      have hn1 : Hid ((L.map PP.cells).length + ([PP.mk x.few A8 c8].map PP.cells).length ≤ 1000000) := Lib.hid (by rw [List.length_map]; have := hlen9.out; simp; omega)
      have hvl : Hid ((L.map PP.cells).length = L.length) := Lib.hid (by rw [List.length_map])
      have hB2 : Hid (w0.heap.size ≤ w9.heap.size) := Lib.hid (Nat.le_trans hsz8.out b9.size)
      clear b9
      go_wp2_with (at_builtin; rw [← hw9]; (refine wpList_append_sl rfl (.tmp 26) (.tmp 28) 22 rfl elP (by rfl) own9.out (by rfl) (by rfl) hsl.out (wholeP _) (fun h => by cases h) hn1.out hB2.out ?_); intro v' w4 own1 grow1 _)
      have hgr : ∀ j, (Value.slice A3 L.length c3).ownBlock = some j → w0.heap.size ≤ j := fun j hj => (own9.out.lt j hj).1
      have b4 : Below w.heap.size w w4 := hb9.out.grown grow1 hb9.out.size (fun j hj => by have := hgr j hj; have := hsz0.out; omega)
      have X4 := X9.out.grown grow1 (fun e => by have := hgr _ e.symm; have := hsz0.out; omega)
      have Y4 := Y9.out.grown grow1 (fun e => by have := hgr _ e.symm; have := hsz0.out; omega)
      have hsz4 := Nat.le_trans hB2.out grow1.size
      go_roundw
      case rel =>
        refine ⟨k + 1, L ++ [⟨x.few, A8, c8⟩], by omega, by go_num, by rw [hnx.out, List.map_append]; rfl, fun y hy => ?_, by rw [List.map_append]; exact own1, hsz4, X4, Y4, b4⟩
        rcases List.mem_append.1 hy with hy | hy
        · exact hin.out y hy
        · obtain rfl := List.mem_singleton.1 hy; exact hel.out
      case measure => simp [intOf]; omega
    · obtain rfl : k = ps.length := by omega
      rw [List.take_length] at hL
      have hPl : l.few.plans = L.map PP.p := by rw [hL, ← hps]; rfl
      have hnp : l.few.plans.length = L.length := by rw [hPl, List.length_map]
      have hnh : l.few.hosts.length = n := hn.out
      have hown9 := Lib.hid hown
      have hho := Lib.hid (show Row hc 2 wb B l.few.hosts.length d l.few.hosts from H.out.hosts.take 12)
      have hbw := Lib.hid hb
      have x0 := hX.c (i := 0) rfl
      have x1 := hX.c (i := 1) rfl
      have x2 := hX.c (i := 2) rfl
      have f0 := hX.f 0
      have f1 := hX.f 1
      have f2 := hX.f 2
      have y0 := hY.c (i := 0) rfl
      have y1 := hY.c (i := 1) rfl
      have y2 := hY.c (i := 2) rfl
      have g0 := hY.f 0
      have g1 := hY.f 1
      have g2 := hY.f 2
      have zz := hX.lt
      have z2 := hY.lt
      have hfar := Lib.hid (show ∀ a, A3 = some a → w0.heap.size ≤ a.block from fun a ha => (own_far hown a ha).1)
      have hne1 : ¬ b2 = w.heap.size := fun e => hd2.out.2 e.symm
      have hne2 : ¬ w.heap.size = b2 := fun e => hd2.out.2 e
      replace hPl := Lib.hid hPl
      replace hL := Lib.hid hL
      replace hin := Lib.hid hin
      replace hnp := Lib.hid hnp
      replace hnh := Lib.hid hnh
      replace hlenL := Lib.hid hlenL
      have XX := Lib.hid hX
      have YY := Lib.hid hY
      clear hown hX hY hb hsz
      go_upto_region 8 with fail
      go_region
      obtain ⟨w5, hw5⟩ : ∃ W, W = ((wo.setCell ⟨w.heap.size, 1, none⟩ (.slice A3 L.length c3)).setCell ⟨w.heap.size, 2, none⟩ (.slice B n d)).drew := ⟨_, rfl⟩
      have hdr : ∀ W : World, Below W.heap.size W W.drew := fun W => (Below.refl _ _).drew
      have X5 := (show Bx w5 w.heap.size 25 #[.int .i64 l.segs, .slice A3 L.length c3, .slice B n d] by rw [hw5]; exact ((XX.out.set 1 (.slice A3 L.length c3)).set 2 (.slice B n d)).below (hdr _))
      have Y5 := (show Bx w5 b2 25 #[.int .i64 0, .slice none 0 0, .slice none 0 0] by rw [hw5]; exact ((YY.out.other hne1 1 (.slice A3 L.length c3)).other hne1 2 (.slice B n d)).below (hdr _))
      have B5 := Lib.hid (show Below w.heap.size w w5 by rw [hw5]; exact ((hbw.out.setCell (Nat.le_refl _) (.slice A3 L.length c3)).setCell (Nat.le_refl _) (.slice B n d)).drew)
      have hob : (Value.slice A3 L.length c3).ownBlock = none ∨ (Value.slice A3 L.length c3).ownBlock ≠ some w.heap.size := .inr (fun e => by have := (hown9.out.lt _ e).1; have := hsz0.out; omega)
      have hob2 : (Value.slice A3 L.length c3).ownBlock = none ∨ (Value.slice A3 L.length c3).ownBlock ≠ some b2 := .inr (fun e => by have := (hown9.out.lt _ e).1; have := hsz0.out; omega)
      have own5 := Lib.hid (show Own w5 w0.heap.size 61 2 (.slice A3 L.length c3) (L.map PP.cells) by rw [hw5]; exact ((hown9.out.kept (setCell_grown _ _ _ _) hob).kept (setCell_grown _ _ _ _) hob).below (hdr _))
      replace hob := Lib.hid hob
      replace hob2 := Lib.hid hob2
      rw [← hw5]
      clear hw5 hdr x0 x1 x2 f0 f1 f2 y0 y1 y2 g0 g1 g2 zz z2 XX YY
      have x0 := X5.c (i := 0) rfl
      have x1 := X5.c (i := 1) rfl
      have x2 := X5.c (i := 2) rfl
      have y0 := Y5.c (i := 0) rfl
      have y1 := Y5.c (i := 1) rfl
      have y2 := Y5.c (i := 2) rfl
      have g0 := Y5.f 0
      have g1 := Y5.f 1
      have g2 := Y5.f 2
      have zz := X5.lt
      have z2 := Y5.lt
      replace X5 := Lib.hid X5
      replace Y5 := Lib.hid Y5
      go_wp2_with fail
      obtain ⟨w6, hw6⟩ : ∃ W, W = ((w5.setCell ⟨b2, 0, none⟩ (.int .i64 l.segs)).setCell ⟨b2, 1, none⟩ (.slice A3 L.length c3)).setCell ⟨b2, 2, none⟩ (.slice B n d) := ⟨_, rfl⟩
      have Y6 := (show Bx w6 b2 25 #[.int .i64 l.segs, .slice A3 L.length c3, .slice B n d] by rw [hw6]; exact Bx.three Y5.out)
      have B6 := Lib.hid (show Below w.heap.size w w6 by rw [hw6]; exact ((B5.out.setCell hd2.out.1 (.int .i64 l.segs)).setCell hd2.out.1 (.slice A3 L.length c3)).setCell hd2.out.1 (.slice B n d))
      have own6 := Lib.hid (show Own w6 w0.heap.size 61 2 (.slice A3 L.length c3) (L.map PP.cells) by rw [hw6]; exact ((own5.out.kept (setCell_grown _ _ _ _) hob2.out).kept (setCell_grown _ _ _ _) hob2.out).kept (setCell_grown _ _ _ _) hob2.out)
      rw [← hw6]
      clear hw6 x0 x1 x2 y0 y1 y2 g0 g1 g2 zz z2
      have k0 := Y6.c (i := 0) rfl
      have k1 := Y6.c (i := 1) rfl
      have k2 := Y6.c (i := 2) rfl
      replace Y6 := Lib.hid Y6
      refine bodyPost_ret (v := .agg #[.int .i64 l.segs, .slice A3 L.length c3, .slice B n d]) (by simp [results, Try.results7, go_sem, k0, k1, k2]) rfl ⟨A3, c3, L, ?_, B6.out, hPl.out, fun X W' hX hg hbW => ?_⟩
      · show _ = Ending.returned (.agg #[.int .i64 l.few.segs, .slice A3 l.few.plans.length c3, .slice B l.few.hosts.length d])
        rw [hnp.out, hnh.out]; rfl
      · have own7 := own6.out.kept hg (.inr (fun e => by have := (own6.out.lt _ e).1; have := hsz0.out; omega))
        refine ⟨⟨?_, hho.out.below hbW⟩, own7.sl (by decide), fun x hx => (hin.out x hx).below hbW⟩
        rw [hnp.out, hPl.out]
        exact RowP.new own7 (fun x hx => (hin.out x hx).below hbW)
theorem o_few {l : L} {A : Option Addr} {c : Nat} {B : Option Addr} {d : Nat} {w : World} {wb : World} (hr : LanR wb l A c B d) (hb0 : Below wb.heap.size wb w) :
    Calls Try.prog 7 #[lv l A c B d] w fun e w' => ∃ A' c', e = .returned (lv l.few A' c' B d) ∧ Below w.heap.size w w' ∧ ∀ X W', X < w.heap.size → w'.grownBy W' (some X) → Below wb.heap.size wb W' → LanR W' l.few A' c' B d :=
  (o_few2 hr hb0).mono fun e w' ⟨A', c', K, h1, h2, h3, h4⟩ => ⟨A', c', h1, h2, fun X W' a b c => (h4 X W' a b c).1⟩
end Go.Proofs.Ytplgaenfcaphnaa.LanP

/-
  Contracts of footwayref16's Same, and of footwaylaw16's alive.
-/
namespace Go.Proofs.Ytplgaenfcaphnaa.LanP
open Go.RowKit Go.Sort Go.Proofs.Ytplgaenfcaphnaa.SliceP Go.Proofs.Ytplgaenfcaphnaa.BoxP
open Go.Proofs.Ytplgaenfcaphnaa.IntP (RowI SlI OwnI True1)
open Go.Proofs.Ytplgaenfcaphnaa.BoolP (RowB SlB OwnB)
open Go.Proofs.Ytplgaenfcaphnaa.MacP (arr_out)
set_option linter.unusedVariables false
set_option maxRecDepth 100000
theorem cell_below {w w' : World} {b i : Nat} {v : Value} (hb : Below w.heap.size w w') (h : b < w.heap.size) (hc : w.cell? ⟨b, i, none⟩ = some v) : w'.cell? ⟨b, i, none⟩ = some v := by
  have hh := hb.block b h
  unfold World.cell? at hc ⊢
  rwa [hh]
set_option maxHeartbeats 8000000 in
theorem s_same {A B : Option Addr} {n c m d : Nat} {ls : List (List Int)} {w : World} (hA : RowL ic w A n c ls) (hB : RowL ic w B m d ls) (h1 : ls.length ≤ 1000) (h2 : ∀ r ∈ ls, r.length ≤ 1000) :
    Calls Try.prog 15 #[.slice A n c, .slice B m d] w (True1 w) := by
  obtain rfl := hA.len
  have hm := hB.len
  subst hm
  have HA := Lib.hid hA
  have HB := Lib.hid hB
  have H2 := Lib.hid h2
  clear hA hB h2
  have hq : ((ls.length : Int) != (ls.length : Int)) = false := by simp
  go_enter Try.func15, Try.ntmps15
  go_wp2_with fail
  clear hq
  go_loopw [14] (fun i wr => ∃ k : Nat, k ≤ ls.length ∧ i = .int .i64 k ∧ Below w.heap.size w wr) (fun i _ => ls.length - (intOf i).toNat)
  case atStart => exact ⟨0, by omega, rfl, Below.refl _ _⟩
  case round =>
    obtain ⟨k, hk, rfl, hb⟩ := hrel
    by_cases hkn : k < ls.length
    · have hkl : (k : Int) < (ls.length : Int) := by omega
      obtain ⟨x, hx⟩ : ∃ x, ls[k]? = some x := ⟨_, List.getElem?_eq_getElem hkn⟩
      have hxl := H2.out x (List.mem_of_getElem? hx)
      obtain ⟨b1, o1, A1, c1, rfl, hb1, x0, R1⟩ := (HA.out.below hb).at_ hx
      obtain ⟨b2, o2, A2, c2, rfl, hb2, y0, R2⟩ := (HB.out.below hb).at_ hx
      replace hx := Lib.hid hx
      have hqq : ((x.length : Int) != (x.length : Int)) = false := by simp
      go_upto_region 6 with fail
      go_quiet (fail)
      obtain ⟨w8, hw8⟩ : ∃ W, W = wr.drewN nq := ⟨_, rfl⟩
      have bb8 : Below wr.heap.size wr w8 := by rw [hw8]; exact ⟨rfl, rfl, rfl, Nat.le_refl _, fun _ _ => rfl⟩
      rw [← hw8]
      have b8 := Lib.hid (bt hb bb8)
      have u0 := cell_below bb8 hb1 x0
      have v0 := cell_below bb8 hb2 y0
      have hb18 : b1 < w8.heap.size := Nat.lt_of_lt_of_le hb1 bb8.size
      have hb28 : b2 < w8.heap.size := Nat.lt_of_lt_of_le hb2 bb8.size
      have R18 := Lib.hid (R1.below bb8)
      have R28 := Lib.hid (R2.below bb8)
      clear hw8 hb bb8 x0 y0 hb1 hb2 R1 R2
      go_wp2_with fail
      clear hqq
      have U0 := Lib.hid u0
      have V0 := Lib.hid v0
      have HB1 := Lib.hid hb18
      have HB2 := Lib.hid hb28
      clear u0 v0 hb18 hb28
      go_loopw [33] (fun i wi => ∃ j : Nat, j ≤ x.length ∧ i = .int .i64 j ∧ Below w8.heap.size w8 wi) (fun i _ => x.length - (intOf i).toNat)
      case atStart => exact ⟨0, by omega, rfl, Below.refl _ _⟩
      case round =>
        obtain ⟨j, hj, rfl, hbi⟩ := hrel
        obtain ⟨wi, hwi⟩ : ∃ W, W = wr := ⟨_, rfl⟩
        subst hwi
        by_cases hjn : j < x.length
        · have hjl : (j : Int) < (x.length : Int) := by omega
          obtain ⟨y, hy⟩ : ∃ y, x[j]? = some y := ⟨_, List.getElem?_eq_getElem hjn⟩
          have u1 := cell_below hbi HB1.out U0.out
          have v1 := cell_below hbi HB2.out V0.out
          obtain ⟨b3, o3, hA3, hb3, x3⟩ := (R18.out.below hbi).iat hy
          obtain ⟨b4, o4, hA4, hb4, x4⟩ := (R28.out.below hbi).iat hy
          rw [hA3] at u1
          rw [hA4] at v1
          replace hA3 := Lib.hid hA3
          replace hA4 := Lib.hid hA4
          replace hy := Lib.hid hy
          have hqq : (y != y) = false := by simp
          go_upto_region 11 with fail
          go_quiet (fail)
          obtain ⟨w9, hw9⟩ : ∃ W, W = wi.drewN nq := ⟨_, rfl⟩
          have bb9 : Below wi.heap.size wi w9 := by rw [hw9]; exact ⟨rfl, rfl, rfl, Nat.le_refl _, fun _ _ => rfl⟩
          rw [← hw9]
          have b9 := Lib.hid (bt hbi bb9)
          clear hw9 hbi bb9 u1 v1 x3 x4 hb3 hb4
          go_wp2_with fail
          go_roundw
          case rel => exact ⟨j + 1, by omega, by go_num, b9.out⟩
          case measure => simp [intOf]; omega
        · obtain rfl : j = x.length := by omega
          have b9 := Lib.hid (bt b8.out hbi)
          clear hbi
          go_wp2_with fail
          go_roundw
          case rel => exact ⟨k + 1, by omega, by go_num, b9.out⟩
          case measure => simp [intOf]; omega
    · obtain rfl : k = ls.length := by omega
      replace hb := Lib.hid hb
      go_wp2_with fail
      go_ret
      exact ⟨rfl, hb.out⟩
end Go.Proofs.Ytplgaenfcaphnaa.LanP

/-
  Contract of footwaylaw16's alive.
-/
namespace Go.Proofs.Ytplgaenfcaphnaa.LanP
open Go.RowKit Go.Sort Go.Proofs.Ytplgaenfcaphnaa.SliceP Go.Proofs.Ytplgaenfcaphnaa.BoxP
open Go.Proofs.Ytplgaenfcaphnaa.IntP (RowI SlI OwnI True1)
open Go.Proofs.Ytplgaenfcaphnaa.BoolP (RowB SlB OwnB)
open Go.Proofs.Ytplgaenfcaphnaa.MacP (arr_out)
set_option linter.unusedVariables false
set_option maxRecDepth 100000
/-! Two bridges side by side. -/
def l9 : L := ⟨2, [⟨1, [⟨0, 1, true⟩, ⟨1, 1, true⟩]⟩, ⟨2, [⟨0, 1, true⟩, ⟨1, 1, true⟩]⟩], []⟩
theorem l9_ok : l9.ok = true := by kernel_rfl
theorem l9_roles : l9.roles = [[1, 1], [0, 2]] := by kernel_rfl
theorem l9_small : Small l9 := ⟨by decide, fun p hp => by simp [l9] at hp; rcases hp with rfl | rfl <;> decide, by decide⟩
abbrev k9 : List Lk := [⟨0, 1, true⟩, ⟨1, 1, true⟩]
theorem l9_row {w : World} {b g : Nat} (h1 : Bx w b 63 #[.int .i64 0, .int .i64 1, .bool true, .int .i64 1, .int .i64 1, .bool true]) (h2 : Bx w g 61 #[.int .i64 1, .slice (some ⟨b, 0, none⟩) 2 2, .int .i64 2, .slice (some ⟨b, 0, none⟩) 2 2]) :
    LanR w l9 (some ⟨g, 0, none⟩) 2 none 0 := by
  have hk : Row kc 3 w (some ⟨b, 0, none⟩) 2 2 k9 := ⟨rfl, bx_sl h1 rfl (fun c hc => by simp at hc; rcases hc with rfl | rfl <;> rfl), Nat.le_refl _, fun e => (by cases e), by omega⟩
  refine ⟨⟨rfl, by decide, fun e => (by cases e), by omega, [⟨⟨1, k9⟩, some ⟨b, 0, none⟩, 2⟩, ⟨⟨2, k9⟩, some ⟨b, 0, none⟩, 2⟩], rfl, bx_sl h2 rfl (fun c hc => by simp [PP.cells] at hc; rcases hc with rfl | rfl <;> rfl), fun x hx => ?_⟩, Row.zero w⟩
  simp only [List.mem_cons, List.not_mem_nil, or_false] at hx
  rcases hx with rfl | rfl <;> exact hk
theorem l9_rows {w : World} {b1 b2 g : Nat} (h1 : Bx w b1 3 #[.int .i64 1, .int .i64 1]) (h2 : Bx w b2 3 #[.int .i64 0, .int .i64 2]) (h3 : Bx w g 43 #[.slice (some ⟨b1, 0, none⟩) 2 2, .slice (some ⟨b2, 0, none⟩) 2 2]) :
    RowL ic w (some ⟨g, 0, none⟩) 2 2 ([[1, 1], [0, 2]] : List (List Int)) := by
  have r1 : Row ic 1 w (some ⟨b1, 0, none⟩) 2 2 ([1, 1] : List Int) := ⟨rfl, bx_sl h1 rfl (fun c hc => by simp at hc; subst hc; rfl), Nat.le_refl _, fun e => (by cases e), by omega⟩
  have r2 : Row ic 1 w (some ⟨b2, 0, none⟩) 2 2 ([0, 2] : List Int) := ⟨rfl, bx_sl h2 rfl (fun c hc => by simp at hc; rcases hc with rfl | rfl <;> rfl), Nat.le_refl _, fun e => (by cases e), by omega⟩
  refine ⟨rfl, by decide, fun e => (by cases e), by omega, [⟨[1, 1], some ⟨b1, 0, none⟩, 2⟩, ⟨[0, 2], some ⟨b2, 0, none⟩, 2⟩], rfl, bx_sl h3 rfl (fun c hc => by simp [RwP.cells] at hc; rcases hc with rfl | rfl <;> rfl), fun x hx => ?_⟩
  simp only [List.mem_cons, List.not_mem_nil, or_false] at hx
  rcases hx with rfl | rfl
  · exact r1
  · exact r2
set_option maxHeartbeats 8000000 in
theorem o_alive (w : World) : Calls Try.prog 13 #[] w (True1 w) := by
  obtain ⟨w1, hw1⟩ : ∃ W, W = w.alloc (.cells #[.int .i64 0, .int .i64 1, .bool true, .int .i64 1, .int .i64 1, .bool true] 63) := ⟨_, rfl⟩
  obtain ⟨w2, hw2⟩ : ∃ W, W = w1.alloc (.cells #[.int .i64 1, .slice (some ⟨w.heap.size, 0, none⟩) 2 2, .int .i64 2, .slice (some ⟨w.heap.size, 0, none⟩) 2 2] 61) := ⟨_, rfl⟩
  have b1 : Below w.heap.size w w1 := by rw [hw1]; exact (Below.refl _ _).alloc (Nat.le_refl _) _
  have b2 : Below w1.heap.size w1 w2 := by rw [hw2]; exact (Below.refl _ _).alloc (Nat.le_refl _) _
  have B2 := Lib.hid (bt b1 b2)
  have Y1 : Bx w1 w.heap.size 63 #[.int .i64 0, .int .i64 1, .bool true, .int .i64 1, .int .i64 1, .bool true] := by rw [hw1]; exact Bx.new _ _ _ rfl
  have hR := l9_row (w := w2) (b := w.heap.size) (g := w1.heap.size) (Y1.below b2) (by rw [hw2]; exact Bx.new _ _ _ rfl)
  have hC := o_roles_ok hR l9_small l9_ok
  rw [show lv l9 (some ⟨w1.heap.size, 0, none⟩) 2 none 0 = .agg #[.int .i64 2, .slice (some ⟨w1.heap.size, 0, none⟩) 2 2, .slice none 0 0] from rfl, l9_roles] at hC
  replace hC := Lib.hid hC
  clear b1 b2 Y1 hR
  go_enter Try.func13, Try.ntmps13
  go_upto_region 2 with fail
  rw [← hw1]
  clear hw1
  go_wp2_with fail
  rw [← hw2]
  clear hw2
  go_at_call 9
  (with_reducible refine hC.out.mono ?_)
  rintro e w3 ⟨A3, c3, rfl, r3, f3, hb3⟩
  replace r3 : RowL ic w3 A3 2 c3 ([[1, 1], [0, 2]] : List (List Int)) := r3
  have B3 := Lib.hid (bt B2.out hb3)
  clear hb3 f3
  obtain ⟨w4, hw4⟩ : ∃ W, W = w3.alloc (.cells #[.int .i64 1, .int .i64 1] 3) := ⟨_, rfl⟩
  have bb4 : Below w3.heap.size w3 w4 := by rw [hw4]; exact (Below.refl _ _).alloc (Nat.le_refl _) _
  obtain ⟨w5, hw5⟩ : ∃ W, W = w4.alloc (.cells #[.int .i64 0, .int .i64 2] 3) := ⟨_, rfl⟩
  have h4 : w4.heap.size = w3.heap.size + 1 := by rw [hw4]; simp
  have bb5 : Below w4.heap.size w4 w5 := by rw [hw5]; exact (Below.refl _ _).alloc (Nat.le_refl _) _
  obtain ⟨w6, hw6⟩ : ∃ W, W = w5.alloc (.cells #[.slice (some ⟨w3.heap.size, 0, none⟩) 2 2, .slice (some ⟨w3.heap.size + 1, 0, none⟩) 2 2] 43) := ⟨_, rfl⟩
  have h5 : w5.heap.size = w3.heap.size + 1 + 1 := by rw [hw5]; simp [h4]
  have bb6 : Below w5.heap.size w5 w6 := by rw [hw6]; exact (Below.refl _ _).alloc (Nat.le_refl _) _
  have hR6 := l9_rows (w := w6) (b1 := w3.heap.size) (b2 := w3.heap.size + 1) (g := w3.heap.size + 1 + 1) (((show Bx w4 w3.heap.size 3 #[.int .i64 1, .int .i64 1] by rw [hw4]; exact Bx.new _ _ _ rfl).below bb5).below bb6) ((show Bx w5 (w3.heap.size + 1) 3 #[.int .i64 0, .int .i64 2] by rw [hw5]; exact Bx.new _ _ _ h4).below bb6) (by rw [hw6]; exact Bx.new _ _ _ h5)
  have b36 := bt (bt bb4 bb5) bb6
  have B6 := Lib.hid (bt B3.out b36)
  have hS := Lib.hid (s_same (r3.below b36) hR6 (by decide) (by decide))
  clear bb4 bb5 bb6 b36 hR6 r3 h4 h5
  go_upto_region 3 with fail
  go_wp2_with fail
  rw [← hw4, ← hw5, ← hw6]
  clear hw4 hw5 hw6
  go_at_call 15
  (with_reducible refine hS.out.mono ?_)
  rintro e w7 ⟨rfl, hb7⟩
  have B7 := Lib.hid (bt B6.out hb7)
  clear hb7
  go_wp2_with fail
  go_ret
  exact ⟨rfl, B7.out⟩
end Go.Proofs.Ytplgaenfcaphnaa.LanP
