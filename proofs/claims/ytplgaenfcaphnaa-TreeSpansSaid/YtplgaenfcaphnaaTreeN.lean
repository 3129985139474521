/- Layer 16 (tree), plain: the best of some vecs, as vec.Best has it; bounds; a segment's port, as a pair. -/
import Derived.Test.YtplgaenfcaphnaaTreeJ
import Derived.Test.YtplgaenfcaphnaaVecH
import Derived.Test.YtplgaenfcaphnaaTreeM
import Derived.BigRegion
import Derived.Deep.LoopGhost
namespace Go.Proofs.Ytplgaenfcaphnaa.LanP
open Go.Proofs.Ytplgaenfcaphnaa.VecP (V okV betB betB_iff bestI bestI_lt okV_iff)
set_option linter.unusedVariables false
set_option maxRecDepth 100000
def vt (x : Vt) : V := ⟨x.1, x.2.1, x.2.2.1, x.2.2.2⟩
theorem bet_vb (x y : Vt) : (vt x).bet (vt y) = vb x y := by
  rw [Bool.eq_iff_iff, vb_iff]
  exact betB_iff _ _ _ _ _ _ _ _
theorem firstMin_app {α : Type} (f : α → Vt) (l : List α) (x q : α) (h : firstMin f l none = some q) : firstMin f (l ++ [x]) none = if vb (f x) (f q) = true then some x else some q := by
  unfold firstMin at h ⊢
  rw [List.foldl_append, h]; rfl
theorem first_at {α : Type} (f : α → Vt) (L : List α) : ∀ (k : Nat), 0 < k → k ≤ L.length → firstMin f (L.take k) none = L[bestI (L.map fun x => vt (f x)) k]?
  | 0, h, _ => absurd h (by omega)
  | k + 1, _, hk => by
    obtain ⟨x, hx⟩ : ∃ x, L[k]? = some x := ⟨_, List.getElem?_eq_getElem (by omega)⟩
    have hmx : (L.map fun x => vt (f x))[k]? = some (vt (f x)) := by rw [List.getElem?_map, hx]; rfl
    rw [List.take_add_one, hx]
    rcases Nat.eq_zero_or_pos k with h0 | h0
    · subst h0
      have e : bestI (L.map fun x => vt (f x)) 1 = 0 := by unfold bestI; split <;> rfl
      rw [e, hx]; rfl
    · have ih := first_at f L k h0 (by omega)
      have hlt := bestI_lt (L.map fun x => vt (f x)) k (by rw [List.length_map]; omega) (by rw [List.length_map]; omega)
      rw [List.length_map] at hlt
      obtain ⟨q, hq⟩ : ∃ q, L[bestI (L.map fun x => vt (f x)) k]? = some q := ⟨_, List.getElem?_eq_getElem hlt⟩
      have hmq : (L.map fun x => vt (f x))[bestI (L.map fun x => vt (f x)) k]? = some (vt (f q)) := by rw [List.getElem?_map, hq]; rfl
      rw [hq] at ih
      show firstMin f (L.take k ++ [x]) none = _
      rw [firstMin_app f _ x q ih]
      cases hb : vb (f x) (f q) with
      | true => rw [if_pos rfl, VecP.bestI_yes hmx hmq (by rw [bet_vb]; exact hb), hx]
      | false => rw [if_neg (by simp), VecP.bestI_no hmx hmq (by rw [bet_vb]; exact hb), hq]
theorem first_all {α : Type} (f : α → Vt) (L : List α) (h : 0 < L.length) : firstMin f L none = L[bestI (L.map fun x => vt (f x)) L.length]? := by
  have := first_at f L L.length h (Nat.le_refl _)
  rwa [List.take_length] at this
theorem root_bd {l : L} (h : l.ok = true) : ∀ (i b : Nat), b < l.plans.length → 0 ≤ (bB l i b).1 ∧ (bB l i b).1 ≤ 65535
  | 0, b, hb => by rw [bB_zero hb]; exact ok_id h _ (pl_mem hb)
  | i + 1, b, hb => by
    rcases bB_att hb i with e | ⟨k, c, hE, e⟩
    · rw [e]; exact root_bd h i b hb
    · rw [e]; exact root_bd h i k hE.1
theorem told_ok {l : L} (h : l.ok = true) {q : Nat × Nat} (h1 : q.1 < l.plans.length) (h2 : q.2 < (pl l q.1).ports.length) : (vt (told l q)).ok = true := by
  have a := root_bd h l.plans.length q.1 h1
  have b := best_bd h h1
  have c := ok_id h _ (pl_mem h1)
  have d := (ok_port ((ok_plans h).2 _ (pl_mem h1))).2.1
  refine (okV_iff _ _ _ _).2 ⟨?_, ?_, ?_, ?_, ?_, ?_, ?_, ?_⟩
  · exact a.1
  · have := a.2; show (l.best q.1).1 < 65536; unfold L.best; omega
  · exact c.1
  · have := c.2; show (pl l q.1).id < 65536; omega
  · exact b.1
  · have := b.2; show (l.best q.1).2 < 2147483648; omega
  · show (0 : Int) ≤ (q.2 : Int); omega
  · show (q.2 : Int) < 8; omega
/-- A segment's port as a pair; of one that has none, zeros. -/
def ow (l : L) (s : Int) : Int × Int := match ownS l s with | some q => nz q | none => (0, 0)
theorem ow_some {l : L} {s : Int} {q : Nat × Nat} (h : ownS l s = some q) : ow l s = nz q := by unfold ow; rw [h]
theorem ow_none {l : L} {s : Int} (h : ownS l s = none) : ow l s = (0, 0) := by unfold ow; rw [h]
end Go.Proofs.Ytplgaenfcaphnaa.LanP

/-
  Contracts of tree's tellsBy, ownOf.
-/
namespace Go.Proofs.Ytplgaenfcaphnaa.LanP
open Go.Proofs.Ytplgaenfcaphnaa.VecP (V okV SlV bestI best_none best_good)
open Go.RowKit Go.Sort Go.Proofs.Ytplgaenfcaphnaa.SliceP Go.Proofs.Ytplgaenfcaphnaa.BoxP
open Go.Proofs.Ytplgaenfcaphnaa.IntP (RowI SlI OwnI)
open Go.Proofs.Ytplgaenfcaphnaa.BoolP (RowB SlB OwnB)
open Go.Proofs.Ytplgaenfcaphnaa.MacP (arr_out)
set_option linter.unusedVariables false
set_option maxRecDepth 100000
abbrev vcl (x : Vt) : List Value := [.int .i64 x.1, .int .i64 x.2.1, .int .i64 x.2.2.1, .int .i64 x.2.2.2]
theorem elV : ElemT Try.prog 101 103 4 := ElemT.mk' (z := .agg #[.int .i64 0, .int .i64 0, .int .i64 0, .int .i64 0]) (bytes := 32) Try.underlying101 (by kernel_rfl) (by decide) rfl (by decide)
theorem wholeV (l : List Vt) : Whole 4 (l.map vcl) := fun cs hc => by
  obtain ⟨x, _, rfl⟩ := List.mem_map.1 hc
  exact ⟨rfl, fun u hu => by simp at hu; rcases hu with rfl | rfl | rfl | rfl <;> rfl⟩
theorem bs_get {l : L} {b : Nat} (h : b < l.plans.length) : l.bs[b]? = some (l.best b) := by
  unfold L.bs L.best bB
  rw [List.getD_eq_getElem?_getD, List.getElem?_eq_getElem (by rw [bests_len]; exact h)]; rfl
theorem bs_len (l : L) : l.bs.length = l.plans.length := bests_len l _
set_option maxHeartbeats 8000000 in
theorem o_tells {l : L} {A : Option Addr} {c : Nat} {B : Option Addr} {d : Nat} {w : World} {C : Option Addr} {e : Nat} (hr : LanR w l A c B d) (hs : Small l) (hI : Row hc 2 w C l.bs.length e l.bs) {q : Nat × Nat} (hb : q.1 < l.plans.length) :
    Calls Try.prog 50 #[lv l A c B d, .slice C l.bs.length e, .agg #[.int .i64 q.1, .int .i64 q.2]] w fun en w' => en = .returned (vtv (told l q)) ∧ Below w.heap.size w w' := by
  obtain ⟨b, k⟩ := q
  simp only at hb
  have hbl : (b : Int) < (l.plans.length : Int) := by omega
  have hbl2 : (b : Int) < (l.bs.length : Int) := by rw [bs_len]; omega
  have hn8 := hs.plans
  have hn9 : l.bs.length ≤ 8 := by rw [bs_len]; omega
  have H := Lib.hid hr.plans
  have HI := Lib.hid hI
  have hpb := plan_get hb
  have hbb := bs_get hb
  have hT := Lib.hid (show told l (b, k) = ((l.best b).1, (l.best b).2, (pl l b).id, (k : Int)) from rfl)
  obtain ⟨p, hp⟩ : ∃ p, pl l b = p := ⟨_, rfl⟩
  obtain ⟨y, hy⟩ : ∃ y, l.best b = y := ⟨_, rfl⟩
  obtain ⟨I, hI9⟩ : ∃ I, l.bs = I := ⟨_, rfl⟩
  rw [hp] at hpb hT
  rw [hy] at hbb hT
  rw [hI9] at hbb HI hbl2 hn9 ⊢
  replace hp := Lib.hid hp
  replace hy := Lib.hid hy
  replace hI9 := Lib.hid hI9
  clear hr hs hI hb
  obtain ⟨w0, hw0⟩ : ∃ W, W = w.alloc (.cells #[.int .i64 l.segs, .slice A l.plans.length c, .slice B l.hosts.length d] 25) := ⟨_, rfl⟩
  have hs0 : w0.heap.size = w.heap.size + 1 := by rw [hw0]; simp
  have bb0 : Below w.heap.size w w0 := by rw [hw0]; exact (Below.refl _ _).alloc (Nat.le_refl _) _
  have XX0 : Bx w0 w.heap.size 25 #[.int .i64 l.segs, .slice A l.plans.length c, .slice B l.hosts.length d] := by rw [hw0]; exact Bx.new _ _ _ (by rfl)
  obtain ⟨g1, hg1⟩ : ∃ g, g = w.heap.size + 1 := ⟨_, rfl⟩
  obtain ⟨w1, hw1⟩ : ∃ W, W = w0.alloc (.cells #[.int .i64 b, .int .i64 k] 33) := ⟨_, rfl⟩
  have hs1 : w1.heap.size = g1 + 1 := by rw [hw1]; simp; omega
  have bb1 : Below w0.heap.size w0 w1 := by rw [hw1]; exact (Below.refl _ _).alloc (Nat.le_refl _) _
  have XX1 : Bx w1 g1 33 #[.int .i64 b, .int .i64 k] := by rw [hw1]; exact Bx.new _ _ _ (by omega)
  obtain ⟨g2, hg2⟩ : ∃ g, g = g1 + 1 := ⟨_, rfl⟩
  obtain ⟨w2, hw2⟩ : ∃ W, W = w1.alloc (.cells #[.int .i64 0, .int .i64 0, .int .i64 0, .int .i64 0] 103) := ⟨_, rfl⟩
  have hs2 : w2.heap.size = g2 + 1 := by rw [hw2]; simp; omega
  have bb2 : Below w1.heap.size w1 w2 := by rw [hw2]; exact (Below.refl _ _).alloc (Nat.le_refl _) _
  have XX2 : Bx w2 g2 103 #[.int .i64 0, .int .i64 0, .int .i64 0, .int .i64 0] := by rw [hw2]; exact Bx.new _ _ _ (by omega)
  have X0 := Lib.hid (show Bx w2 w.heap.size 25 #[.int .i64 l.segs, .slice A l.plans.length c, .slice B l.hosts.length d] from ((XX0.below bb1).below bb2))
  have X1 := Lib.hid (show Bx w2 g1 33 #[.int .i64 b, .int .i64 k] from (XX1.below bb2))
  have X2 := Lib.hid (show Bx w2 g2 103 #[.int .i64 0, .int .i64 0, .int .i64 0, .int .i64 0] from XX2)
  have B2 := Lib.hid (show Below w.heap.size w w2 from (bt (bt bb0 bb1) bb2))
  have hgt := Lib.hid (show w.heap.size < g1 ∧ g1 < g2 from by constructor <;> omega)
  have hsz := Lib.hid (show w2.heap.size = g2 + 1 from hs2)
  clear hs0 bb0 XX0 hs1 bb1 XX1 hs2 bb2 XX2
  go_enter Try.func50, Try.ntmps50
  go_upto_region 1 with fail
  rw [← hw0, ← hw1, ← hw2, ← hg1, ← hg2]
  clear hw0 hw1 hw2 hg1 hg2
  have y0 := X1.out.c (i := 0) rfl
  have y1 := X1.out.c (i := 1) rfl
  have zy := X1.out.lt
  go_region
  obtain ⟨w3, hw3⟩ : ∃ W, W = w2.drew := ⟨_, rfl⟩
  have bb3 : Below w2.heap.size w2 w3 := by rw [hw3]; exact (Below.refl _ _).drew
  rw [← hw3]
  clear hw3 y0 y1 zy
  obtain ⟨bI, oI, hCC, hbI, r0, r1⟩ := Row.hat (HI.out.below (bt B2.out bb3)) hbb
  subst hCC
  obtain ⟨bP, oP, A2, c2, hAA, hbP, p0, p1, hrow⟩ := RowP.at_ (H.out.below (bt B2.out bb3)) hpb
  subst hAA
  clear hrow p1
  have X3 := Lib.hid (X0.out.below bb3)
  have V3 := Lib.hid (X2.out.below bb3)
  have B3 := Lib.hid (bt B2.out bb3)
  clear X0 X1 X2 B2 bb3
  replace hbb := Lib.hid hbb
  replace hpb := Lib.hid hpb
  have x1 := X3.out.c (i := 1) rfl
  have zx := X3.out.lt
  have v0 := V3.out.c (i := 0) rfl
  have v1 := V3.out.c (i := 1) rfl
  have v2 := V3.out.c (i := 2) rfl
  have v3 := V3.out.c (i := 3) rfl
  have fv0 := V3.out.f 0
  have fv1 := V3.out.f 1
  have fv2 := V3.out.f 2
  have fv3 := V3.out.f 3
  have zv := V3.out.lt
  go_upto_region 2 with fail
  go_region
  obtain ⟨wz, hwz⟩ : ∃ W, W = ((((w3.setCell ⟨g2, 0, none⟩ (.int .i64 y.1)).setCell ⟨g2, 1, none⟩ (.int .i64 y.2)).setCell ⟨g2, 2, none⟩ (.int .i64 p.id)).setCell ⟨g2, 3, none⟩ (.int .i64 (k : Int))).drew := ⟨_, rfl⟩
  have Yz := Lib.hid (show Bx wz g2 103 #[.int .i64 y.1, .int .i64 y.2, .int .i64 p.id, .int .i64 (k : Int)] by rw [hwz]; exact (Bx.setv4 V3.out).below (Below.refl _ _).drew)
  have Bz := Lib.hid (show Below w.heap.size w wz by rw [hwz]; exact (below4 B3.out (by have := hgt.out; omega) _ _ _ _).drew)
  rw [← hwz]
  clear hwz r0 r1 hbI p0 hbP x1 zx
  clear v0 v1 v2 v3 fv0 fv1 fv2 fv3 zv
  have y0 := Yz.out.c (i := 0) rfl
  have y1 := Yz.out.c (i := 1) rfl
  have y2 := Yz.out.c (i := 2) rfl
  have y3 := Yz.out.c (i := 3) rfl
  go_wp2_with fail
  refine bodyPost_ret (v := vtv (y.1, y.2, p.id, (k : Int))) (by simp [results, Try.results50, go_sem, y0, y1, y2, y3]) rfl ⟨by rw [hT.out], Bz.out⟩
end Go.Proofs.Ytplgaenfcaphnaa.LanP

/-
  Contract of tree's ownOf.
-/
namespace Go.Proofs.Ytplgaenfcaphnaa.LanP
open Go.Proofs.Ytplgaenfcaphnaa.VecP (V okV SlV bestI bestI_lt best_none best_good)
open Go.RowKit Go.Sort Go.Proofs.Ytplgaenfcaphnaa.SliceP Go.Proofs.Ytplgaenfcaphnaa.BoxP
open Go.Proofs.Ytplgaenfcaphnaa.IntP (RowI SlI OwnI)
open Go.Proofs.Ytplgaenfcaphnaa.BoolP (RowB SlB OwnB)
open Go.Proofs.Ytplgaenfcaphnaa.MacP (arr_out)
set_option linter.unusedVariables false
set_option maxRecDepth 100000
set_option maxHeartbeats 16000000 in
theorem o_ownof {l : L} {A : Option Addr} {c : Nat} {B : Option Addr} {d : Nat} {w : World} {C : Option Addr} {e : Nat} (hr : LanR w l A c B d) (hs : Small l) (ho : l.ok = true) (hI : Row hc 2 w C l.bs.length e l.bs) {s : Int} (hw : whyI l s = 0) :
    Calls Try.prog 29 #[lv l A c B d, .slice C l.bs.length e, .int .i64 s] w fun en w' => en = .returned (.tuple #[hv (ow l s), .bool (ownS l s).isSome]) ∧ Below w.heap.size w w' := by
  have HL := Lib.hid hr
  have HS := Lib.hid hs
  have HO := Lib.hid ho
  have HI := Lib.hid hI
  have HW := Lib.hid hw
  obtain ⟨S, hS⟩ : ∃ S, onS l s = S := ⟨_, rfl⟩
  have hSl : S.length ≤ 80 := by rw [← hS]; exact onS_len hs.plans hs.ports _
  have hSm := Lib.hid (fun q (hq : q ∈ S) => mem_onS.1 (by rw [hS]; exact hq : q ∈ onS l s))
  replace hS := Lib.hid hS
  clear hr hs ho hI hw
  obtain ⟨w0, hw0⟩ : ∃ W, W = w.alloc (.cells #[.int .i64 l.segs, .slice A l.plans.length c, .slice B l.hosts.length d] 25) := ⟨_, rfl⟩
  have hs0 : w0.heap.size = w.heap.size + 1 := by rw [hw0]; simp
  have bb0 : Below w.heap.size w w0 := by rw [hw0]; exact (Below.refl _ _).alloc (Nat.le_refl _) _
  have XX0 : Bx w0 w.heap.size 25 #[.int .i64 l.segs, .slice A l.plans.length c, .slice B l.hosts.length d] := by rw [hw0]; exact Bx.new _ _ _ (by rfl)
  obtain ⟨g1, hg1⟩ : ∃ g, g = w.heap.size + 1 := ⟨_, rfl⟩
  obtain ⟨w1, hw1⟩ : ∃ W, W = w0.alloc (.cells #[.int .i64 0, .int .i64 0] 33) := ⟨_, rfl⟩
  have hs1 : w1.heap.size = g1 + 1 := by rw [hw1]; simp; omega
  have bb1 : Below w0.heap.size w0 w1 := by rw [hw1]; exact (Below.refl _ _).alloc (Nat.le_refl _) _
  have XX1 : Bx w1 g1 33 #[.int .i64 0, .int .i64 0] := by rw [hw1]; exact Bx.new _ _ _ (by omega)
  have X0 := Lib.hid (show Bx w1 w.heap.size 25 #[.int .i64 l.segs, .slice A l.plans.length c, .slice B l.hosts.length d] from (XX0.below bb1))
  have X1 := Lib.hid (show Bx w1 g1 33 #[.int .i64 0, .int .i64 0] from XX1)
  have B1 := Lib.hid (show Below w.heap.size w w1 from (bt bb0 bb1))
  have hgt := Lib.hid (show w.heap.size < g1 from by omega)
  have hsz := Lib.hid (show w1.heap.size = g1 + 1 from hs1)
  clear hs0 bb0 XX0 hs1 bb1 XX1
  have hON := Lib.hid (fun (W : World) (hW : Below w1.heap.size w1 W) => o_on_new (HL.out.below (bt B1.out hW)) HS.out HW.out)
  rw [ports_onS, hS.out, List.length_map] at hON
  go_enter Try.func29, Try.ntmps29
  go_upto_region 1 with fail
  rw [← hw0, ← hw1, ← hg1]
  clear hw0 hw1 hg1
  have x0 := X0.out.c (i := 0) rfl
  have x1 := X0.out.c (i := 1) rfl
  have x2 := X0.out.c (i := 2) rfl
  have zx := X0.out.lt
  go_wp2_with fail
  go_at_call 24
  (with_reducible refine (hON.out _ (Below.refl _ _)).mono ?_)
  rintro en w2 ⟨A5, c5, A6, c6, rfl, _, R6, hb2⟩
  have R2 := Lib.hid R6.1
  have hfar := Lib.hid (show ∀ a, A6 = some a → w1.heap.size ≤ a.block from R6.2)
  have X2 := Lib.hid (X0.out.below hb2)
  have Y2 := Lib.hid (X1.out.below hb2)
  have B2 := Lib.hid (bt B1.out hb2)
  have hbz := Lib.hid (show w1.heap.size ≤ w2.heap.size from hb2.size)
  have hRm := Lib.hid R6.1.mx
  have hRc := Lib.hid R6.1.cap
  clear R6 hb2 X0 X1 x0 x1 x2 zx hON
  obtain ⟨bz, hbz0⟩ : ∃ b, b = w2.heap.size := ⟨_, rfl⟩
  have hg2 := Lib.hid (show w.heap.size < bz ∧ g1 < bz by rw [hbz0]; have := hgt.out; have := hsz.out; have := hbz.out; omega)
  replace hbz0 := Lib.hid hbz0
  go_wp2_with fail
  go_loopw [11, 25] (fun v i wr => ∃ j : Nat, j ≤ S.length ∧ i = .int .i64 j ∧ Own wr bz 103 4 v (((S.take j).map (told l)).map vcl) ∧ bz ≤ wr.heap.size ∧ Bx wr w.heap.size 25 (lc l A c B d) ∧ Bx wr g1 33 #[.int .i64 0, .int .i64 0] ∧ Row ec 2 wr A6 S.length c6 (S.map nz) ∧ (∀ a, A6 = some a → v.ownBlock ≠ some a.block) ∧ Below w2.heap.size w2 wr) (fun _ i _ => S.length - (intOf i).toNat)
  case atStart => exact ⟨0, by omega, rfl, Own.nil _ _ _ _, by rw [hbz0.out]; exact Nat.le_refl _, X2.out, Y2.out, R2.out, (fun a ha e => by cases e), Below.refl _ _⟩
  case round =>
    clear X2 Y2 R2
    obtain ⟨j, hj, rfl, hown, hsz2, hX, hY, hR, hoff, hb⟩ := hrel
    obtain ⟨A7, c7, hv7⟩ := own_form hown
    subst hv7
    obtain ⟨wr0, hwr0⟩ : ∃ W, W = wr := ⟨_, rfl⟩
    subst hwr0
    by_cases hjn : j < S.length
    · have hjl : (j : Int) < (S.length : Int) := by omega
      obtain ⟨q, hq⟩ : ∃ q, S[j]? = some q := ⟨_, List.getElem?_eq_getElem hjn⟩
      obtain ⟨bS, oS, hAS, hbS, r0, r1⟩ := Row.eat hR (k := j) (x := nz q) (by rw [List.getElem?_map, hq]; rfl)
      subst hAS
      unfold nz at r0 r1
      simp only at r0 r1
      have hq1 := hSm.out q (List.mem_of_getElem? hq)
      have hs2 := Lib.hid (take_map_succ (told l) hq)
      have hTL := Lib.hid (fun (W : World) (hW : Below w2.heap.size w2 W) => o_tells (HL.out.below (bt B2.out hW)) HS.out (HI.out.below (bt B2.out hW)) hq1.1)
      obtain ⟨tq, htq⟩ : ∃ t, told l q = t := ⟨_, rfl⟩
      rw [htq] at hTL hs2
      obtain ⟨M, hM⟩ : ∃ M, (S.take j).map (told l) = M := ⟨_, rfl⟩
      have hlenL := Lib.hid (show M.length ≤ 1000 by rw [← hM, List.length_map, List.length_take]; omega)
      rw [hM] at hown hoff hs2 ⊢
      obtain ⟨w20, hw20⟩ : ∃ W, W = wr0.alloc (.cells #[.int .i64 q.1, .int .i64 q.2] 33) := ⟨_, rfl⟩
      have bb20 : Below wr0.heap.size wr0 w20 := by rw [hw20]; exact (Below.refl _ _).alloc (Nat.le_refl _) _
      have Q20 := Lib.hid (show Bx w20 wr0.heap.size 33 #[.int .i64 q.1, .int .i64 q.2] by rw [hw20]; exact Bx.new _ _ _ rfl)
      have own20 := Lib.hid (hown.below bb20)
      have X20 := Lib.hid (hX.below bb20)
      have Y20 := Lib.hid (hY.below bb20)
      have R20 := Lib.hid (hR.below bb20)
      have B20 := Lib.hid (bt hb bb20)
      have sz20 := Lib.hid (Nat.le_trans hsz2 bb20.size)
      have hbS2 := Lib.hid hbS
      have B20s := Lib.hid bb20.size
      obtain ⟨gQ, hgQ⟩ : ∃ g, g = wr0.heap.size := ⟨_, rfl⟩
      rw [← hgQ] at Q20
      replace hoff := Lib.hid hoff
      replace htq := Lib.hid htq
      replace hM := Lib.hid hM
      replace hq := Lib.hid hq
      clear hown hX hY hR hb hsz2 bb20 hq1
      go_upto_region 6 with fail
      rw [← hw20, ← hgQ]
      clear hw20 r0 r1 hbS
      replace hgQ := Lib.hid hgQ
      have x0 := X20.out.c (i := 0) rfl
      have x1 := X20.out.c (i := 1) rfl
      have x2 := X20.out.c (i := 2) rfl
      have zx := X20.out.lt
      have q0 := Q20.out.c (i := 0) rfl
      have q1 := Q20.out.c (i := 1) rfl
      have zq := Q20.out.lt
      go_wp2_with fail
      go_at_call 50
      (with_reducible refine (hTL.out _ B20.out).mono ?_)
      rintro en w21 ⟨rfl, hb21⟩
      have own21 := Lib.hid (own20.out.below hb21)
      have X21 := Lib.hid (X20.out.below hb21)
      have Y21 := Lib.hid (Y20.out.below hb21)
      have R21 := Lib.hid (R20.out.below hb21)
      have B21 := Lib.hid (bt B20.out hb21)
      have sz21 := Lib.hid (Nat.le_trans sz20.out hb21.size)
      have B21s := Lib.hid hb21.size
      clear hb21 own20 X20 Y20 Q20 R20 B20 sz20 x0 x1 x2 zx q0 q1 zq
      obtain ⟨w9, hw9⟩ : ∃ W, W = w21.alloc (.cells #[.int .i64 tq.1, .int .i64 tq.2.1, .int .i64 tq.2.2.1, .int .i64 tq.2.2.2] 103) := ⟨_, rfl⟩
      have b9 : Below w21.heap.size w21 w9 := by rw [hw9]; exact (Below.refl _ _).alloc (Nat.le_refl _) _
      have hsl := Lib.hid (show Sl w9 4 (some ⟨w21.heap.size, 0, none⟩) ([tq].map vcl) from bx_sl (T := 103) (vals := #[.int .i64 tq.1, .int .i64 tq.2.1, .int .i64 tq.2.2.1, .int .i64 tq.2.2.2]) (by rw [hw9]; exact Bx.new _ _ _ rfl) rfl (by intro c hc; simp at hc; subst hc; rfl))
      have own9 := Lib.hid (own21.out.below b9)
      have hb9 := Lib.hid (bt B21.out b9)
      have hn1 : Hid ((M.map vcl).length + ([tq].map vcl).length ≤ 1000000) := Lib.hid (by rw [List.length_map]; have := hlenL.out; simp; omega)
      have hvl : Hid ((M.map vcl).length = M.length) := Lib.hid (by rw [List.length_map])
      have hB2 : Hid (w2.heap.size ≤ w9.heap.size) := Lib.hid hb9.out.size
      have hlt9 := Lib.hid (show ∀ j, (Value.slice A7 M.length c7).ownBlock = some j → w2.heap.size ≤ j from fun j hj => by have h9 := own9.out.lt j hj; rw [← hbz0.out]; exact h9.1)
      have hlo9 := Lib.hid (show ∀ j, (Value.slice A7 M.length c7).ownBlock = some j → bz ≤ j from fun j hj => And.left (own9.out.lt j hj))
      replace hB2 := Lib.hid (show bz ≤ w9.heap.size from Nat.le_trans sz21.out b9.size)
      have hbS9 := Lib.hid (show bS < w9.heap.size from Nat.lt_of_lt_of_le hbS2.out (Nat.le_trans B20s.out (Nat.le_trans B21s.out b9.size)))
      have X9l := Lib.hid (X21.out.below b9)
      have Y9l := Lib.hid (Y21.out.below b9)
      have R9l := Lib.hid (R21.out.below b9)
      clear b9
      go_wp2_with (at_builtin; rw [← hw9]; (refine wpList_append_sl rfl (.tmp 29) (.tmp 34) 101 rfl elV (by rfl) own9.out (by rfl) (by rfl) hsl.out (wholeV _) (fun h => by cases h) hn1.out hB2.out ?_); intro v' w4 own1 grow1 hv1)
      have b4 : Below w2.heap.size w2 w4 := hb9.out.grown grow1 hb9.out.size (fun j hj => hlt9.out j hj)
      have hX4 := X9l.out.grown grow1 (fun e => by have := hlo9.out _ e.symm; have := hg2.out; omega)
      have hY4 := Y9l.out.grown grow1 (fun e => by have := hlo9.out _ e.symm; have := hg2.out; omega)
      have hR4 := R9l.out.grown grow1 (fun a ha _ e => hoff.out a ha e.symm)
      have hsz4 := Nat.le_trans hB2.out grow1.size
      have hoff4 : ∀ a, (some (⟨bS, oS, none⟩ : Addr)) = some a → v'.ownBlock ≠ some a.block := fun a ha e => by
        rcases hv1 with h1 | h1
        · exact hoff.out a ha (h1.symm.trans e)
        · have e2 := h1.symm.trans e
          have e3 := Option.some.inj e2
          have e4 := Option.some.inj ha
          rw [← e4] at e3
          have := hbS9.out
          simp only at e3
          omega
      clear grow1 hv1
      go_roundw
      case rel => exact ⟨j + 1, by omega, by go_num, by rw [hs2.out]; exact own_snoc own1, hsz4, hX4, hY4, hR4, hoff4, b4⟩
      case measure => simp [intOf]; omega
    · obtain rfl : j = S.length := by omega
      rw [List.take_length] at hown hoff ⊢
      rw [List.length_map] at hown hoff ⊢
      have hsl := Lib.hid (show SlV wr0 A7 (S.map fun x => vt (told l x)) from (by have := hown.sl (by decide); rw [List.map_map] at this; show Sl wr0 4 A7 ((S.map fun x => vt (told l x)).map V.cells); rw [List.map_map]; exact this))
      have hall := Lib.hid (show (S.map fun x => vt (told l x)).all V.ok = true by
        rw [List.all_eq_true]
        intro v hv
        obtain ⟨q, hq, rfl⟩ := List.mem_map.1 hv
        exact told_ok HO.out (hSm.out q hq).1 (hSm.out q hq).2.1)
      have hbW := Lib.hid (bt B2.out hb)
      have Yf := Lib.hid hY
      have Rf := Lib.hid hR
      clear hown hoff hX hY hR hb hsz2
      rcases Nat.eq_zero_or_pos S.length with h0 | h0
      · have hnone : ownS l s = none := by unfold ownS; rw [hS.out, List.length_eq_zero_iff.1 h0]; rfl
        have hB := Lib.hid (show ∀ W, Calls Try.prog 51 #[.slice A7 S.length c7] W (fun en w' => en = .returned (.tuple #[.int .i64 0, .int .i64 4]) ∧ Below W.heap.size W w') from fun W => by rw [h0]; exact best_none A7 c7 W)
        replace h0 := Lib.hid h0
        go_wp2_with fail
        go_at_call 51
        (with_reducible refine (hB.out _).mono ?_)
        rintro en w30 ⟨rfl, hb30⟩
        have Y30 := Lib.hid (Yf.out.below hb30)
        have B30 := Lib.hid (bt hbW.out hb30)
        clear hb30 Yf Rf hsl hall
        have v0 := Y30.out.c (i := 0) rfl
        have v1 := Y30.out.c (i := 1) rfl
        have fv0 := Y30.out.f 0
        have fv1 := Y30.out.f 1
        have zv := Y30.out.lt
        go_wp2_with fail
        obtain ⟨wz, hwz⟩ : ∃ W, W = (w30.setCell ⟨g1, 0, none⟩ (.int .i64 0)).setCell ⟨g1, 1, none⟩ (.int .i64 0) := ⟨_, rfl⟩
        have Yz := (show Bx wz g1 33 #[.int .i64 0, .int .i64 0] by rw [hwz]; exact (Y30.out.set 0 _).set 1 _)
        have Bz := Lib.hid (show Below w.heap.size w wz by rw [hwz]; exact (B30.out.setCell (by have := hgt.out; show w.heap.size ≤ g1; omega) _).setCell (by have := hgt.out; show w.heap.size ≤ g1; omega) _)
        rw [← hwz]
        clear hwz
        clear v0 v1 fv0 fv1 zv
        have k0 := Yz.c (i := 0) rfl
        have k1 := Yz.c (i := 1) rfl
        replace Yz := Lib.hid Yz
        refine bodyPost_ret (v := .tuple #[.agg #[.int .i64 0, .int .i64 0], .bool false]) (by simp [results, Try.results29, go_sem, k0, k1]) rfl ⟨by rw [ow_none hnone, hnone]; rfl, Bz.out⟩
      · have hlt := bestI_lt (S.map fun x => vt (told l x)) S.length (by rw [List.length_map]; omega) (by rw [List.length_map]; omega)
        rw [List.length_map] at hlt
        obtain ⟨q, hq⟩ : ∃ q, S[bestI (S.map fun x => vt (told l x)) S.length]? = some q := ⟨_, List.getElem?_eq_getElem hlt⟩
        have hsome := Lib.hid (show ownS l s = some q by unfold ownS; rw [hS.out, first_all (told l) S h0]; exact hq)
        have hB := Lib.hid (fun (W : World) (hW : Below wr0.heap.size wr0 W) => best_good A7 c7 (S.map fun x => vt (told l x)) W (by rw [List.length_map]; omega) (by rw [List.length_map]; omega) (hsl.out.below hW) hall.out)
        rw [List.length_map] at hB
        obtain ⟨bi, hbi⟩ : ∃ bi, bestI (S.map fun x => vt (told l x)) S.length = bi := ⟨_, rfl⟩
        rw [hbi] at hB hlt hq
        have hbl : (bi : Int) < (S.length : Int) := by omega
        replace hbi := Lib.hid hbi
        replace hq := Lib.hid hq
        go_wp2_with fail
        go_at_call 51
        (with_reducible refine (hB.out _ (Below.refl _ _)).mono ?_)
        rintro en w30 ⟨rfl, hb30⟩
        have Y30 := Lib.hid (Yf.out.below hb30)
        have B30 := Lib.hid (bt hbW.out hb30)
        obtain ⟨bS, oS, hAS, hbS, r0, r1⟩ := Row.eat (Rf.out.below hb30) (k := bi) (x := nz q) (by rw [List.getElem?_map, hq.out]; rfl)
        subst hAS
        unfold nz at r0 r1
        simp only at r0 r1
        clear hb30 Yf Rf hsl hall hB
        have v0 := Y30.out.c (i := 0) rfl
        have v1 := Y30.out.c (i := 1) rfl
        have fv0 := Y30.out.f 0
        have fv1 := Y30.out.f 1
        have zv := Y30.out.lt
        go_wp2_with fail
        obtain ⟨wz, hwz⟩ : ∃ W, W = (w30.setCell ⟨g1, 0, none⟩ (.int .i64 q.1)).setCell ⟨g1, 1, none⟩ (.int .i64 q.2) := ⟨_, rfl⟩
        have Yz := (show Bx wz g1 33 #[.int .i64 q.1, .int .i64 q.2] by rw [hwz]; exact (Y30.out.set 0 _).set 1 _)
        have Bz := Lib.hid (show Below w.heap.size w wz by rw [hwz]; exact (B30.out.setCell (by have := hgt.out; show w.heap.size ≤ g1; omega) _).setCell (by have := hgt.out; show w.heap.size ≤ g1; omega) _)
        rw [← hwz]
        clear hwz r0 r1 hbS
        clear v0 v1 fv0 fv1 zv
        have k0 := Yz.c (i := 0) rfl
        have k1 := Yz.c (i := 1) rfl
        replace Yz := Lib.hid Yz
        refine bodyPost_ret (v := .tuple #[.agg #[.int .i64 q.1, .int .i64 q.2], .bool true]) (by simp [results, Try.results29, go_sem, k0, k1]) rfl ⟨by rw [ow_some hsome.out, hsome.out]; rfl, Bz.out⟩
end Go.Proofs.Ytplgaenfcaphnaa.LanP
