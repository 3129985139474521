/-
  Contracts of footwayref16's better, joins, near.
-/
import Derived.Test.YtplgaenfcaphnaaLanT
import Derived.Test.YtplgaenfcaphnaaTreeA
import Derived.BigRegion
namespace Go.Proofs.Ytplgaenfcaphnaa.LanP
open Go.RowKit Go.Sort Go.Proofs.Ytplgaenfcaphnaa.SliceP Go.Proofs.Ytplgaenfcaphnaa.BoxP
open Go.Proofs.Ytplgaenfcaphnaa.IntP (RowI SlI OwnI)
open Go.Proofs.Ytplgaenfcaphnaa.BoolP (RowB SlB OwnB)
open Go.Proofs.Ytplgaenfcaphnaa.MacP (classI class_yes class_no ref_right_no ref_right_yes ref_class)
open Go.Proofs.Ytplgaenfcaphnaa.LruP (hasI placeI has_more has_hit place_hit place_none place_geq has_true has_false)
set_option linter.unusedVariables false
set_option maxRecDepth 100000
set_option maxHeartbeats 1000000 in
theorem t_better (x y : Bst) (w : World) {b : Bool} (he : btr x y = b) : Calls Try.prog 56 #[hv x, hv y] w fun e w' => e = .returned (.bool b) ∧ Below w.heap.size w w' := by
  have he2 := btr_iff (x := x) (y := y)
  rw [he] at he2
  clear he
  obtain ⟨a1, a2⟩ := x
  obtain ⟨b1, b2⟩ := y
  simp only at he2
  by_cases h1 : a1 < b1
  · obtain rfl := he2.2 (.inl h1)
    clear he2
    go_enter Try.func56, Try.ntmps56
    go_wp2_with fail
    go_ret
    exact ⟨rfl, ((Below.refl _ _).alloc (Nat.le_refl _) _).alloc (by simp) _⟩
  · by_cases h2 : a1 = b1
    · subst h2
      cases b with
      | true =>
        have h3 : a2 < b2 := by have := he2.1 rfl; omega
        clear he2
        go_enter Try.func56, Try.ntmps56
        go_wp2_with fail
        go_ret
        exact ⟨rfl, ((Below.refl _ _).alloc (Nat.le_refl _) _).alloc (by simp) _⟩
      | false =>
        have h3 : ¬ a2 < b2 := by intro h; exact absurd (he2.2 (.inr ⟨rfl, h⟩)) (by simp)
        clear he2
        go_enter Try.func56, Try.ntmps56
        go_wp2_with fail
        go_ret
        exact ⟨rfl, ((Below.refl _ _).alloc (Nat.le_refl _) _).alloc (by simp) _⟩
    · cases b with
      | true => have := he2.1 rfl; omega
      | false =>
        clear he2
        go_enter Try.func56, Try.ntmps56
        go_wp2_with fail
        go_ret
        exact ⟨rfl, ((Below.refl _ _).alloc (Nat.le_refl _) _).alloc (by simp) _⟩
set_option maxHeartbeats 8000000 in
theorem t_joins {A : Option Addr} {c : Nat} {p : P} {w : World} {s : Int} (hr : Row kc 3 w A p.ports.length c p.ports) (hl : p.ports.length ≤ 1000) {b : Bool} (he : joins p s = b) :
    Calls Try.prog 55 #[.agg #[.int .i64 p.id, .slice A p.ports.length c], .int .i64 s] w fun e w' => e = .returned (.bool b) ∧ Below w.heap.size w w' := by
  obtain ⟨w0, hw0⟩ : ∃ W, W = w.alloc (.cells #[.int .i64 p.id, .slice A p.ports.length c] 61) := ⟨_, rfl⟩
  have B0 := Lib.hid (show Below w.heap.size w w0 by rw [hw0]; exact (Below.refl _ _).alloc (Nat.le_refl _) _)
  have X0 := Lib.hid (show Bx w0 w.heap.size 61 #[.int .i64 p.id, .slice A p.ports.length c] by rw [hw0]; exact Bx.new _ _ _ rfl)
  have H := Lib.hid hr
  clear hr
  go_enter Try.func55, Try.ntmps55
  go_upto_region 1 with fail
  rw [← hw0]
  clear hw0
  have x1 := X0.out.c (i := 1) rfl
  have zz := X0.out.lt
  unfold joins at he
  replace he := Lib.hid he
  go_wp2_with fail
  clear x1 zz
  go_loopw [10] (fun i wr => ∃ k : Nat, k ≤ p.ports.length ∧ i = .int .i64 k ∧ (p.ports.take k).any (fun x => x.up && x.seg == s) = false ∧ Below w.heap.size w wr) (fun i _ => p.ports.length - (intOf i).toNat)
  case atStart => exact ⟨0, by omega, rfl, rfl, B0.out⟩
  case round =>
    obtain ⟨k, hk, rfl, hno, hb⟩ := hrel
    by_cases hkn : k < p.ports.length
    · have hkl : (k : Int) < (p.ports.length : Int) := by omega
      obtain ⟨x, hx⟩ : ∃ x, p.ports[k]? = some x := ⟨_, List.getElem?_eq_getElem hkn⟩
      obtain ⟨bS8, oS8, hAS8, hbS8, q8_0, q8_1, q8_2⟩ := Row.kat (H.out.below hb) hx
      subst hAS8
      obtain ⟨w8, hw8⟩ : ∃ W, W = wr.alloc (.cells #[.int .i64 x.seg, .int .i64 x.cost, .bool x.up] 63) := ⟨_, rfl⟩
      have bb8 : Below wr.heap.size wr w8 := by rw [hw8]; exact (Below.refl _ _).alloc (Nat.le_refl _) _
      have b8 := Lib.hid (bt hb bb8)
      have X8 := Lib.hid (show Bx w8 wr.heap.size 63 #[.int .i64 x.seg, .int .i64 x.cost, .bool x.up] by rw [hw8]; exact Bx.new _ _ _ rfl)
      have hgood := Lib.hid fun h => any_more (f := fun x : Lk => x.up && x.seg == s) hx hno h
      have hhit := Lib.hid fun h => any_hit (f := fun x : Lk => x.up && x.seg == s) hx h
      clear hno
      replace hx := Lib.hid hx
      clear hb bb8
      go_upto_region 4 with fail
      rw [← hw8]
      clear hw8 q8_0 q8_1 q8_2 hbS8
      have o8_0 := X8.out.c (i := 0) rfl
      have o8_1 := X8.out.c (i := 1) rfl
      have o8_2 := X8.out.c (i := 2) rfl
      have zz8 := X8.out.lt
      cases hq1 : x.up
      · have hs2 := Lib.hid (hgood.out (by rw [hq1]; rfl))
        rw [hq1] at o8_2
        replace hq1 := Lib.hid hq1
        go_wp2_with fail
        go_roundw
        case rel => exact ⟨k + 1, by omega, by go_num, hs2.out, b8.out⟩
        case measure => simp [intOf]; omega
      · cases hq2 : (x.seg == s)
        · have hs2 := Lib.hid (hgood.out (by rw [hq1, hq2]; rfl))
          rw [hq1] at o8_2
          replace hq1 := Lib.hid hq1
          go_wp2_with fail
          go_roundw
          case rel => exact ⟨k + 1, by omega, by go_num, hs2.out, b8.out⟩
          case measure => simp [intOf]; omega
        · have he2 := Lib.hid (he.out.symm.trans (hhit.out (by rw [hq1, hq2]; rfl)))
          rw [hq1] at o8_2
          replace hq1 := Lib.hid hq1
          clear he
          go_wp2_with fail
          go_ret
          exact ⟨by cases he2.out; rfl, b8.out⟩
    · obtain rfl : k = p.ports.length := by omega
      rw [List.take_length] at hno
      have he2 := Lib.hid (he.out.symm.trans hno)
      replace hb := Lib.hid hb
      clear hno he
      go_wp2_with fail
      go_ret
      exact ⟨by cases he2.out; rfl, hb.out⟩
/-- The best by some neighbours' ports. -/
def nQ (l : L) (I : List Bst) (b : Nat) (v : Bst) (x : Lk) (j : Nat) : Bst := least v ((List.range j).flatMap (cand l I b x))
def nP (l : L) (I : List Bst) (b k : Nat) : Bst := least (I.getD b (0, 0)) (((pl l b).ports.take k).flatMap fun x => (List.range l.plans.length).flatMap (cand l I b x))
theorem least_app (o : Bst) (l m : List Bst) : least o (l ++ m) = least (least o l) m := by unfold least; rw [List.foldl_append]
theorem nQ_succ (l : L) (I : List Bst) (b : Nat) (v : Bst) (x : Lk) (j : Nat) : nQ l I b v x (j + 1) = least (nQ l I b v x j) (cand l I b x j) := by unfold nQ; rw [flat_succ, least_app]
theorem nP_succ {l : L} {I : List Bst} {b k : Nat} {x : Lk} (h : (pl l b).ports[k]? = some x) : nP l I b (k + 1) = nQ l I b (nP l I b k) x l.plans.length := by
  unfold nP nQ; rw [List.take_add_one, h, List.flatMap_append, least_app]; simp
theorem nP_all (l : L) (I : List Bst) (b : Nat) : nP l I b (pl l b).ports.length = near l I b := by unfold nP near cands; rw [List.take_length]
theorem nP_zero (l : L) (I : List Bst) (b : Nat) : nP l I b 0 = I.getD b (0, 0) := rfl
theorem nQ_zero (l : L) (I : List Bst) (b : Nat) (v : Bst) (x : Lk) : nQ l I b v x 0 = v := rfl
theorem below2 {w wr : World} {g : Nat} (h : Below w.heap.size w wr) (hg : w.heap.size ≤ g) (v0 v1 : Value) : Below w.heap.size w ((wr.setCell ⟨g, 0, none⟩ v0).setCell ⟨g, 1, none⟩ v1) := (h.setCell hg _).setCell hg _
theorem Bx.two {w : World} {b : Nat} {T : TypeId} {v0 v1 u0 u1 : Value} (h : Bx w b T #[v0, v1]) : Bx ((w.setCell ⟨b, 0, none⟩ u0).setCell ⟨b, 1, none⟩ u1) b T #[u0, u1] := (h.set 0 u0).set 1 u1
theorem Bx.two_other {w : World} {p q : Nat} {T : TypeId} {vals : Array Value} (h : Bx w p T vals) (hq : p ≠ q) (v0 v1 : Value) : Bx ((w.setCell ⟨q, 0, none⟩ v0).setCell ⟨q, 1, none⟩ v1) p T vals := (h.other hq _ _).other hq _ _
set_option maxHeartbeats 16000000 in
theorem t_near {l : L} {A : Option Addr} {c : Nat} {B : Option Addr} {d : Nat} {w : World} (hr : LanR w l A c B d) (hs : Small l) {C : Option Addr} {e : Nat} {I : List Bst} (hI : Row hc 2 w C I.length e I) (hl : I.length = l.plans.length) (hc0 : ∀ p ∈ l.plans, ∀ x ∈ p.ports, 0 ≤ x.cost ∧ x.cost ≤ 1000) (hI0 : ∀ y ∈ I, 0 ≤ y.2 ∧ y.2 ≤ 1000000) (b : Nat) (hb : b < l.plans.length) {r : Bst} (he : near l I b = r) :
    Calls Try.prog 34 #[lv l A c B d, .slice C I.length e, .int .i64 b] w fun e w' => e = .returned (hv r) ∧ Below w.heap.size w w' := by
  have HI := Lib.hid hI
  have H := Lib.hid hr.plans
  have HS := Lib.hid hs
  have HC := Lib.hid hc0
  have HI0 := Lib.hid hI0
  replace he := Lib.hid he
  have hbl : (b : Int) < (I.length : Int) := by omega
  have hbl2 : (b : Int) < (l.plans.length : Int) := by omega
  obtain ⟨pb, hpb⟩ : ∃ p, l.plans[b]? = some p := ⟨_, List.getElem?_eq_getElem hb⟩
  have hpl := Lib.hid (show pl l b = pb by unfold pl; rw [List.getD_eq_getElem?_getD, hpb]; rfl)
  obtain ⟨a0, ha0⟩ : ∃ a, I[b]? = some a := ⟨_, List.getElem?_eq_getElem (by omega)⟩
  have hg0 := Lib.hid (show I.getD b (0, 0) = a0 by rw [List.getD_eq_getElem?_getD, ha0]; rfl)
  have hpb8 := HS.out.ports pb (List.mem_of_getElem? hpb)
  have hK := Lib.hid hl
  clear hI hl hc0 hI0
  obtain ⟨w0, hw0, X0, R0, B0⟩ := new3 w hr
  replace X0 := Lib.hid X0
  replace B0 := Lib.hid B0
  clear hr hs R0
  obtain ⟨g1, hg1⟩ : ∃ g, g = w.heap.size + 1 := ⟨_, rfl⟩
  obtain ⟨g2, hg2⟩ : ∃ g, g = w.heap.size + 1 + 1 := ⟨_, rfl⟩
  obtain ⟨w1, hw1⟩ : ∃ W, W = w0.alloc (.cells #[.int .i64 0, .int .i64 0] 46) := ⟨_, rfl⟩
  have bb1 : Below w0.heap.size w0 w1 := by rw [hw1]; exact (Below.refl _ _).alloc (Nat.le_refl _) _
  have hsz : w0.heap.size = w.heap.size + 1 := by rw [hw0]; simp
  have hsz1 : w1.heap.size = g2 := by rw [hw1, hg2]; simp; omega
  have Y1 := Lib.hid (show Bx w1 g1 46 #[.int .i64 0, .int .i64 0] by rw [hw1, hg1, ← hsz]; exact Bx.new _ _ _ rfl)
  obtain ⟨w2, hw2⟩ : ∃ W, W = w1.alloc (.cells #[.int .i64 a0.1, .int .i64 a0.2] 46) := ⟨_, rfl⟩
  have bb2 : Below w1.heap.size w1 w2 := by rw [hw2]; exact (Below.refl _ _).alloc (Nat.le_refl _) _
  have Z2 := Lib.hid (show Bx w2 g2 46 #[.int .i64 a0.1, .int .i64 a0.2] by rw [hw2, ← hsz1]; exact Bx.new _ _ _ rfl)
  have X1 := Lib.hid (X0.out.below bb1)
  have X2 := Lib.hid (X1.out.below bb2)
  have Y2 := Lib.hid (Y1.out.below bb2)
  have B1 := Lib.hid (bt B0.out bb1)
  have B2 := Lib.hid (bt B1.out bb2)
  have hgg := Lib.hid (show w.heap.size < g1 ∧ g1 < g2 by omega)
  clear bb1 bb2 hsz
  replace hsz1 := Lib.hid hsz1
  go_enter Try.func34, Try.ntmps34
  go_upto_region 1 with fail
  rw [← hw0, ← hw1, ← hg1]
  clear hw0 hw1 hg1 hg2
  obtain ⟨bI, oI, hCC, hbI, q0, q1⟩ := Row.hat (HI.out.below B1.out) ha0
  subst hCC
  obtain ⟨bP, oP, A2, c2, hAA, hbP, p0, p1, hrow⟩ := RowP.at_ (H.out.below B2.out) hpb
  subst hAA
  obtain ⟨bP', oP', A2', c2', hAA, hbP', p0', p1', hrow'⟩ := RowP.at_ H.out hpb
  obtain ⟨rfl, rfl⟩ : bP' = bP ∧ oP' = oP := by injection hAA with e; injection e with e1 e2 e3; exact ⟨e1.symm, e2.symm⟩
  have hq : A2' = A2 ∧ c2' = c2 := by
    have := ((B2.out.cell (p := ⟨bP', _, none⟩) hbP').trans p1').symm.trans p1
    injection this with e; injection e with e1 e2 e3; exact ⟨e1, e3⟩
  obtain ⟨rfl, rfl⟩ := hq
  have HR := Lib.hid hrow'
  clear hAA hbP' p0' p1' hrow' hrow p0
  replace ha0 := Lib.hid ha0
  replace hpb := Lib.hid hpb
  go_upto_region 2 with fail
  rw [← hw2, hsz1.out]
  clear hw2 hbI q0 q1
  have x1 := X2.out.c (i := 1) rfl
  have zz := X2.out.lt
  go_wp2_with fail
  clear x1 zz p1 hbP
  have hE : nP l I b pb.ports.length = r := by rw [← he.out, ← nP_all, hpl.out]
  replace hE := Lib.hid hE
  have hS := Lib.hid (fun k x (h : pb.ports[k]? = some x) => nP_succ (l := l) (I := I) (b := b) (k := k) (x := x) (by rw [hpl.out]; exact h))
  have hZ := Lib.hid ((nP_zero l I b).trans hg0.out)
  have hQ1 := fun x v j u (h : nQ l I b v x j = u) => (nQ_succ l I b v x j).trans (by rw [h])
  clear he hg0
  go_loopw [24] (fun i wr => ∃ (k : Nat) (v : Bst), k ≤ pb.ports.length ∧ i = .int .i64 k ∧ nP l I b k = v ∧ Bx wr w.heap.size 25 (lc l (some ⟨bP', oP', none⟩) c B d) ∧ Bx wr g1 46 #[.int .i64 0, .int .i64 0] ∧ Bx wr g2 46 #[.int .i64 (v).1, .int .i64 (v).2] ∧ Below w.heap.size w wr) (fun i _ => pb.ports.length - (intOf i).toNat)
  case atStart => exact ⟨0, a0, by omega, rfl, hZ.out, X2.out, Y2.out, Z2.out, B2.out⟩
  case round =>
    clear X0 X1 X2 Y1 Y2 Z2 B0 B1 B2 hZ
    obtain ⟨k, v, hk, rfl, hv, hX, hY, hZ, hb⟩ := hrel
    by_cases hkn : k < pb.ports.length
    · have hkl : (k : Int) < (pb.ports.length : Int) := by omega
      obtain ⟨x, hx⟩ : ∃ x, pb.ports[k]? = some x := ⟨_, List.getElem?_eq_getElem hkn⟩
      obtain ⟨bS8, oS8, hAS8, hbS8, q8_0, q8_1, q8_2⟩ := Row.kat (HR.out.below hb) hx
      subst hAS8
      obtain ⟨w8, hw8⟩ : ∃ W, W = wr.alloc (.cells #[.int .i64 x.seg, .int .i64 x.cost, .bool x.up] 63) := ⟨_, rfl⟩
      have bb8 : Below wr.heap.size wr w8 := by rw [hw8]; exact (Below.refl _ _).alloc (Nat.le_refl _) _
      have b8 := Lib.hid (bt hb bb8)
      have X8 := Lib.hid (show Bx w8 wr.heap.size 63 #[.int .i64 x.seg, .int .i64 x.cost, .bool x.up] by rw [hw8]; exact Bx.new _ _ _ rfl)
      have hxc := HC.out pb (List.mem_of_getElem? hpb.out) x (List.mem_of_getElem? hx)
      have hQ1 := hQ1 x v
      have hS2 := Lib.hid ((hS.out k x hx).trans (by rw [hv]))
      have X8l := Lib.hid (hX.below bb8)
      have Y8 := Lib.hid (hY.below bb8)
      have Z8 := Lib.hid (hZ.below bb8)
      have hZ8lt := hZ.lt
      replace hxc := Lib.hid hxc
      clear hX hY hZ hv
      replace hx := Lib.hid hx
      clear hb bb8
      go_upto_region 5 with fail
      rw [← hw8]
      clear hw8 q8_0 q8_1 q8_2 hbS8
      have o8_0 := X8.out.c (i := 0) rfl
      have o8_1 := X8.out.c (i := 1) rfl
      have o8_2 := X8.out.c (i := 2) rfl
      have zz8 := X8.out.lt
      have x1 := X8l.out.c (i := 1) rfl
      have zz := X8l.out.lt
      go_wp2_with fail
      clear x1 zz o8_0 o8_1 o8_2 zz8
      obtain ⟨gx, hgx⟩ : ∃ g, g = wr.heap.size := ⟨_, rfl⟩
      rw [← hgx] at X8 ⊢
      have hgl := Lib.hid (show g2 < gx ∧ gx < w8.heap.size from ⟨by rw [hgx]; exact hZ8lt, X8.out.lt⟩)
      replace hgx := Lib.hid hgx
      go_loopw [31] (fun i wi => ∃ (j : Nat) (u : Bst), j ≤ l.plans.length ∧ i = .int .i64 j ∧ nQ l I b v x j = u ∧ Bx wi w.heap.size 25 (lc l (some ⟨bP', oP', none⟩) c B d) ∧ Bx wi g1 46 #[.int .i64 0, .int .i64 0] ∧ Bx wi g2 46 #[.int .i64 (u).1, .int .i64 (u).2] ∧ Bx wi gx 63 #[.int .i64 x.seg, .int .i64 x.cost, .bool x.up] ∧ Below w.heap.size w wi) (fun i _ => l.plans.length - (intOf i).toNat)
      case atStart => exact ⟨0, v, by omega, rfl, rfl, X8l.out, Y8.out, Z8.out, X8.out, b8.out⟩
      case round =>
        clear X8l X8 Y8 Z8 b8
        obtain ⟨j, u, hj, rfl, hu, hX, hY, hZ, hLk, hb⟩ := hrel
        by_cases hjn : j < l.plans.length
        · have hjl : (j : Int) < (l.plans.length : Int) := by omega
          have hjl2 : (j : Int) < (I.length : Int) := by have := hK.out; omega
          obtain ⟨y, hy⟩ : ∃ y, I[j]? = some y := ⟨_, List.getElem?_eq_getElem (by have := hK.out; omega)⟩
          have hyc := HI0.out y (List.mem_of_getElem? hy)
          have hgy := Lib.hid (show I.getD j (0, 0) = y by rw [List.getD_eq_getElem?_getD, hy]; rfl)
          obtain ⟨p, hp⟩ : ∃ p, l.plans[j]? = some p := ⟨_, List.getElem?_eq_getElem hjn⟩
          obtain ⟨bS7, oS7, A7, c7, hAS7, hbS7, q7_0, q7_1, hrow7⟩ := RowP.at_ (H.out.below hb) hp
          obtain ⟨rfl, rfl⟩ : bP' = bS7 ∧ oP' = oS7 := by injection hAS7 with e; injection e with e1 e2 e3; exact ⟨e1, e2⟩
          clear hAS7
          obtain ⟨w7, hw7⟩ : ∃ W, W = wr.alloc (.cells #[.int .i64 p.id, .slice A7 p.ports.length c7] 61) := ⟨_, rfl⟩
          have bb7 : Below wr.heap.size wr w7 := by rw [hw7]; exact (Below.refl _ _).alloc (Nat.le_refl _) _
          have b7 := Lib.hid (bt hb bb7)
          have X7 := Lib.hid (show Bx w7 wr.heap.size 61 #[.int .i64 p.id, .slice A7 p.ports.length c7] by rw [hw7]; exact Bx.new _ _ _ rfl)
          have R7 := Lib.hid (hrow7.below bb7)
          clear hrow7
          have hpp := Lib.hid (show pl l j = p by unfold pl; rw [List.getD_eq_getElem?_getD, hp]; rfl)
          have hpp8 := HS.out.ports p (List.mem_of_getElem? hp)
          have X7l := Lib.hid (hX.below bb7)
          have Y7 := Lib.hid (hY.below bb7)
          have Z7 := Lib.hid (hZ.below bb7)
          have L7 := Lib.hid (hLk.below bb7)
          have hq1 := hQ1 j u hu
          unfold cand at hq1
          rw [hgy.out, hpp.out] at hq1
          replace hq1 := Lib.hid hq1
          clear hX hY hZ hLk hu
          replace hp := Lib.hid hp
          clear hb bb7
          go_upto_region 8 with fail
          rw [← hw7]
          clear hw7 q7_0 q7_1 hbS7
          have o7_0 := X7.out.c (i := 0) rfl
          have o7_1 := X7.out.c (i := 1) rfl
          have zz7 := X7.out.lt
          obtain ⟨bI', oI', hCC, hbI, y0, y1⟩ := Row.hat (HI.out.below b7.out) hy
          obtain ⟨rfl, rfl⟩ : bI' = bI ∧ oI' = oI := by injection hCC with e; injection e with e1 e2 e3; exact ⟨e1.symm, e2.symm⟩
          clear hCC
          replace hy := Lib.hid hy
          have k0 := L7.out.c (i := 0) rfl
          have k1 := L7.out.c (i := 1) rfl
          have k2 := L7.out.c (i := 2) rfl
          have kk := L7.out.lt
          clear o7_0 o7_1
          have hxc1 := hxc.out
          go_region
          obtain ⟨w6, hw6⟩ : ∃ W, W = (w7.alloc (.cells #[.int .i64 y.1, .int .i64 (y.2 + x.cost)] 46)).drew := ⟨_, rfl⟩
          have bb6 : Below w7.heap.size w7 w6 := by rw [hw6]; exact ((Below.refl _ _).alloc (Nat.le_refl _) _).drew
          have W6 := Lib.hid (show Bx w6 w7.heap.size 46 #[.int .i64 y.1, .int .i64 (y.2 + x.cost)] by rw [hw6]; exact (Bx.new _ _ _ rfl).below (Below.refl _ _).drew)
          rw [← hw6]
          have X6l := Lib.hid (X7l.out.below bb6)
          have Y6 := Lib.hid (Y7.out.below bb6)
          have Z6 := Lib.hid (Z7.out.below bb6)
          have L6 := Lib.hid (L7.out.below bb6)
          have P6 := Lib.hid (X7.out.below bb6)
          have R6 := Lib.hid (R7.out.below bb6)
          have b6 := Lib.hid (bt b7.out bb6)
          have hpc := hpp8
          have hn8 := HS.out.plans
          clear hw6 bb6 k0 k1 k2 kk y0 y1 hbI zz7 X7l Y7 Z7 L7 X7 R7 b7
          obtain ⟨c9, hc9⟩ : ∃ c : Bst, c = (y.1, y.2 + x.cost) := ⟨_, rfl⟩
          rw [← hc9] at hq1
          have hc91 : y.1 = c9.1 := by rw [hc9]
          have hc92 : y.2 + x.cost = c9.2 := by rw [hc9]
          rw [hc91, hc92] at W6
          replace hc9 := Lib.hid hc9
          replace hc91 := Lib.hid hc91
          replace hc92 := Lib.hid hc92
          have l0 := L6.out.c (i := 0) rfl
          have l2 := L6.out.c (i := 2) rfl
          have ll := L6.out.lt
          by_cases hjb : j = b
          · have hs2 := Lib.hid (hq1.out.trans (show _ = u by rw [hjb]; simp [least]))
            have hd : ((j : Int) != (b : Int)) = false := by rw [hjb]; simp
            replace hjb := Lib.hid hjb
            go_wp2_with fail
            go_roundw
            case rel => exact ⟨j + 1, u, by omega, by go_num, hs2.out, X6l.out, Y6.out, Z6.out, L6.out, b6.out⟩
            case measure => simp [intOf]; omega
          · have hd : ((j : Int) != (b : Int)) = true := by rw [bne_iff_ne]; exact fun e => hjb (by exact_mod_cast e)
            have hd2 : (j != b) = true := by rw [bne_iff_ne]; exact hjb
            rw [hd2, Bool.true_and] at hq1
            replace hjb := Lib.hid hjb
            replace hd2 := Lib.hid hd2
            obtain ⟨xu, hup⟩ : ∃ q, x.up = q := ⟨_, rfl⟩
            cases xu
            · have hs2 := Lib.hid (hq1.out.trans (show _ = u by rw [hup]; simp [least]))
              rw [hup] at l2
              replace hup := Lib.hid hup
              go_wp2_with fail
              go_roundw
              case rel => exact ⟨j + 1, u, by omega, by go_num, hs2.out, X6l.out, Y6.out, Z6.out, L6.out, b6.out⟩
              case measure => simp [intOf]; omega
            · rw [hup] at l2
              have hq2 := hq1.out
              rw [hup, Bool.true_and] at hq2
              replace hup := Lib.hid hup
              obtain ⟨q, hq⟩ : ∃ q, joins p x.seg = q := ⟨_, rfl⟩
              have hJ := Lib.hid (t_joins R6.out (by omega) hq)
              rw [hq] at hq2
              replace hq := Lib.hid hq
              have o0 := P6.out.c (i := 0) rfl
              have o1 := P6.out.c (i := 1) rfl
              have oo := P6.out.lt
              cases q
              · rw [if_neg (by simp)] at hq2
                replace hq2 := Lib.hid hq2
                go_wp2_with fail
                go_at_call 55
                (with_reducible refine hJ.out.mono ?_)
                rintro e w5 ⟨rfl, hb5⟩
                have X5l := Lib.hid (X6l.out.below hb5)
                have Y5 := Lib.hid (Y6.out.below hb5)
                have Z5 := Lib.hid (Z6.out.below hb5)
                have L5 := Lib.hid (L6.out.below hb5)
                have b5 := Lib.hid (bt b6.out hb5)
                clear hb5 o0 o1 oo l0 l2 ll
                go_wp2_with fail
                go_roundw
                case rel => exact ⟨j + 1, u, by omega, by go_num, hq2.out, X5l.out, Y5.out, Z5.out, L5.out, b5.out⟩
                case measure => simp [intOf]; omega
              · rw [if_pos rfl] at hq2
                obtain ⟨z, hz⟩ : ∃ z, btr c9 u = z := ⟨_, rfl⟩
                have hT := Lib.hid (fun W => t_better c9 u W hz)
                have hq3 : nQ l I b v x (j + 1) = if z = true then c9 else u := by rw [hq2, ← hz]; rfl
                clear hq2
                replace hz := Lib.hid hz
                go_wp2_with fail
                go_at_call 55
                (with_reducible refine hJ.out.mono ?_)
                rintro e w5 ⟨rfl, hb5⟩
                have X5l := Lib.hid (X6l.out.below hb5)
                have Y5 := Lib.hid (Y6.out.below hb5)
                have Z5 := Lib.hid (Z6.out.below hb5)
                have L5 := Lib.hid (L6.out.below hb5)
                have W5 := Lib.hid (W6.out.below hb5)
                have b5 := Lib.hid (bt b6.out hb5)
                clear hb5 o0 o1 oo l0 l2 ll
                have o0 := W5.out.c (i := 0) rfl
                have o1 := W5.out.c (i := 1) rfl
                have oo := W5.out.lt
                have z0 := Z5.out.c (i := 0) rfl
                have z1 := Z5.out.c (i := 1) rfl
                have zz := Z5.out.lt
                go_wp2_with fail
                go_at_call 56
                (with_reducible refine (hT.out _).mono ?_)
                rintro e w4 ⟨rfl, hb4⟩
                have X4l := Lib.hid (X5l.out.below hb4)
                have Y4 := Lib.hid (Y5.out.below hb4)
                have Z4 := Lib.hid (Z5.out.below hb4)
                have L4 := Lib.hid (L5.out.below hb4)
                have W4 := Lib.hid (W5.out.below hb4)
                have b4 := Lib.hid (bt b5.out hb4)
                have hzb := Lib.hid (fun W (hW : Below w.heap.size w W) => hW)
                clear hb4 o0 o1 oo z0 z1 zz
                cases z
                · rw [if_neg (by simp)] at hq3
                  replace hq3 := Lib.hid hq3
                  go_wp2_with fail
                  go_roundw
                  case rel => exact ⟨j + 1, u, by omega, by go_num, hq3.out, X4l.out, Y4.out, Z4.out, L4.out, b4.out⟩
                  case measure => simp [intOf]; omega
                · rw [if_pos rfl] at hq3
                  replace hq3 := Lib.hid hq3
                  have o0 := W4.out.c (i := 0) rfl
                  have o1 := W4.out.c (i := 1) rfl
                  have oo := W4.out.lt
                  have f0 := Z4.out.f 0
                  have f1 := Z4.out.f 1
                  have z0 := Z4.out.c (i := 0) rfl
                  have z1 := Z4.out.c (i := 1) rfl
                  have zz := Z4.out.lt
                  go_wp2_with fail
                  go_roundw
                  case rel =>
                    have h1 := hgg.out
                    have h2 := hgl.out
                    exact ⟨j + 1, c9, by omega, by go_num, hq3.out, Bx.two_other X4l.out (by omega) _ _, Bx.two_other Y4.out (by omega) _ _, Bx.two Z4.out, Bx.two_other L4.out (by omega) _ _, below2 b4.out (by omega) _ _⟩
                  case measure => simp [intOf]; omega
        · obtain rfl : j = l.plans.length := by omega
          rw [← hS2.out] at hu
          replace hu := Lib.hid hu
          replace hX := Lib.hid hX
          replace hY := Lib.hid hY
          replace hZ := Lib.hid hZ
          replace hb := Lib.hid hb
          clear hLk
          go_wp2_with fail
          go_roundw
          case rel => exact ⟨k + 1, u, by omega, by go_num, hu.out, hX.out, hY.out, hZ.out, hb.out⟩
          case measure => simp [intOf]; omega
    · obtain rfl : k = pb.ports.length := by omega
      obtain rfl : v = r := hv.symm.trans hE.out
      replace hb := Lib.hid hb
      replace hv := Lib.hid hv
      have z0 := hZ.c (i := 0) rfl
      have z1 := hZ.c (i := 1) rfl
      have zz := hZ.lt
      have y0 := hY.c (i := 0) rfl
      have y1 := hY.c (i := 1) rfl
      have f0 := hY.f 0
      have f1 := hY.f 1
      have yy := hY.lt
      obtain ⟨wz, hwz⟩ : ∃ W, W = (wr.setCell ⟨g1, 0, none⟩ (.int .i64 v.1)).setCell ⟨g1, 1, none⟩ (.int .i64 v.2) := ⟨_, rfl⟩
      have Yz := Lib.hid (show Bx wz g1 46 #[.int .i64 v.1, .int .i64 v.2] by rw [hwz]; exact Bx.two hY)
      have Bz := Lib.hid (show Below w.heap.size w wz by rw [hwz]; exact below2 hb.out (Nat.le_of_lt hgg.out.1) _ _)
      go_wp2_with fail
      rw [← hwz]
      clear hwz y0 y1 f0 f1 z0 z1
      have y0 := Yz.out.c (i := 0) rfl
      have y1 := Yz.out.c (i := 1) rfl
      refine bodyPost_ret (v := LanP.hv v) (by simp [results, Try.results34, go_sem, y0, y1]) rfl ⟨rfl, Bz.out⟩
end Go.Proofs.Ytplgaenfcaphnaa.LanP

/-
  Contract of footwayref16's Bests.
-/
namespace Go.Proofs.Ytplgaenfcaphnaa.LanP
open Go.RowKit Go.Sort Go.Proofs.Ytplgaenfcaphnaa.SliceP Go.Proofs.Ytplgaenfcaphnaa.BoxP
open Go.Proofs.Ytplgaenfcaphnaa.IntP (RowI SlI OwnI)
open Go.Proofs.Ytplgaenfcaphnaa.BoolP (RowB SlB OwnB)
open Go.Proofs.Ytplgaenfcaphnaa.MacP (classI class_yes class_no ref_right_no ref_right_yes ref_class)
open Go.Proofs.Ytplgaenfcaphnaa.LruP (hasI placeI has_more has_hit place_hit place_none place_geq has_true has_false)
set_option linter.unusedVariables false
set_option maxRecDepth 100000
theorem elB : ElemT Try.prog 47 46 2 := ElemT.mk' (z := .agg #[.int .i64 0, .int .i64 0]) (bytes := 16) Try.underlying47 (by kernel_rfl) (by decide) rfl (by decide)
def firstTo (ps : List P) (k : Nat) : List Bst := (ps.take k).map fun p => (p.id, 0)
theorem firstTo_succ {ps : List P} {k : Nat} {p : P} (h : ps[k]? = some p) : firstTo ps (k + 1) = firstTo ps k ++ [(p.id, 0)] := by unfold firstTo; rw [List.take_add_one, h, List.map_append]; rfl
def nearTo (l : L) (I : List Bst) (j : Nat) : List Bst := (List.range j).map (near l I)
theorem nearTo_succ (l : L) (I : List Bst) (j : Nat) : nearTo l I (j + 1) = nearTo l I j ++ [near l I j] := by unfold nearTo; rw [List.range_succ, List.map_append]; rfl
theorem nearTo_len (l : L) (I : List Bst) (j : Nat) : (nearTo l I j).length = j := by unfold nearTo; simp
theorem bests_zero (l : L) : firstTo l.plans l.plans.length = bests l 0 := by unfold firstTo bests; rw [List.take_length]
theorem bests_succ (l : L) (i : Nat) : nearTo l (bests l i) l.plans.length = bests l (i + 1) := rfl
/-- A best is no farther than a thousand a round. -/
theorem bests_bd {l : L} (h0 : ∀ p ∈ l.plans, ∀ x ∈ p.ports, 0 ≤ x.cost ∧ x.cost ≤ 1000) : ∀ (i : Nat), ∀ y ∈ bests l i, 0 ≤ y.2 ∧ y.2 ≤ i * 1000 := by
  have hE : ∀ b k c, b < l.plans.length → Ed l b k c → 0 ≤ c ∧ c ≤ 1000 := fun b k c hb hE => by
    obtain ⟨_, _, x, hx, _, _, rfl⟩ := hE
    have hm : pl l b ∈ l.plans := by unfold pl; rw [List.getD_eq_getElem?_getD, List.getElem?_eq_getElem hb]; exact List.getElem_mem hb
    exact h0 _ hm x hx
  have hB : ∀ i b, b < l.plans.length → 0 ≤ (bB l i b).2 ∧ (bB l i b).2 ≤ i * 1000 := by
    intro i
    induction i with
    | zero => intro b hb; rw [bB_zero hb]; simp
    | succ i ih =>
      intro b hb
      rcases bB_att hb i with h | ⟨k, c, hE', h⟩
      · rw [h]; have := ih b hb; push_cast; omega
      · rw [h]
        have := ih k hE'.1
        have := hE b k c hb hE'
        push_cast; omega
  intro i y hy
  obtain ⟨b, hb, rfl⟩ := List.mem_iff_getElem.1 hy
  rw [bests_len] at hb
  have := hB i b hb
  unfold bB at this
  rw [List.getD_eq_getElem?_getD, List.getElem?_eq_getElem (by rw [bests_len]; exact hb)] at this
  exact this
set_option maxHeartbeats 16000000 in
theorem t_bests {l : L} {A : Option Addr} {c : Nat} {B : Option Addr} {d : Nat} {w : World} (hr : LanR w l A c B d) (hs : Small l) (hc0 : ∀ p ∈ l.plans, ∀ x ∈ p.ports, 0 ≤ x.cost ∧ x.cost ≤ 1000) :
    Calls Try.prog 16 #[lv l A c B d] w (Ret hc 46 2 w l.bs) := by
  have HL := Lib.hid hr
  have H := Lib.hid hr.plans
  have HS := Lib.hid hs
  have HC := Lib.hid hc0
  have HB := Lib.hid (bests_bd hc0)
  clear hc0
  obtain ⟨w0, hw0, X0, R0, B0⟩ := new3 w hr
  replace X0 := Lib.hid X0
  replace B0 := Lib.hid B0
  clear hr hs R0
  obtain ⟨g1, hg1⟩ : ∃ g, g = w.heap.size + 1 := ⟨_, rfl⟩
  obtain ⟨w1, hw1⟩ : ∃ W, W = w0.alloc (.cells #[] 46) := ⟨_, rfl⟩
  have bb1 : Below w0.heap.size w0 w1 := by rw [hw1]; exact (Below.refl _ _).alloc (Nat.le_refl _) _
  have B1 := Lib.hid (bt B0.out bb1)
  have X1 := Lib.hid (X0.out.below bb1)
  have O1 := Lib.hid (show Own w1 w0.heap.size 46 2 (.slice (some ⟨g1, 0, none⟩) 0 0) [] by rw [hw1, hg1, show w.heap.size + 1 = w0.heap.size by rw [hw0]; simp]; exact own_lit0 w0 _ _)
  have hw00 := Lib.hid (show w.heap.size < w0.heap.size from X0.out.lt)
  have hw01 := Lib.hid (show w0.heap.size ≤ w1.heap.size from bb1.size)
  clear bb1
  go_enter Try.func16, Try.ntmps16
  go_upto_region 2 with fail
  rw [← hw0, ← hw1, ← hg1]
  obtain ⟨bz, hbz⟩ : ∃ b, b = w0.heap.size := ⟨_, rfl⟩
  rw [← hbz] at O1 hw00 hw01
  replace hbz := Lib.hid hbz
  clear hw0 hw1
  replace hg1 := Lib.hid hg1
  have x1 := X1.out.c (i := 1) rfl
  have zz := X1.out.lt
  go_wp2_with fail
  clear x1 zz
  go_loopw [3, 12] (fun v i wr => ∃ k : Nat, k ≤ l.plans.length ∧ i = .int .i64 k ∧ Own wr bz 46 2 v ((firstTo l.plans k).map hc) ∧ bz ≤ wr.heap.size ∧ Bx wr w.heap.size 25 (lc l A c B d) ∧ Below w.heap.size w wr) (fun _ i _ => l.plans.length - (intOf i).toNat)
  case atStart => exact ⟨0, by omega, rfl, O1.out, hw01.out, X1.out, B1.out⟩
  case round =>
    clear O1 X1 B1
    obtain ⟨k, hk, rfl, hown, hsz, hX, hb⟩ := hrel
    obtain ⟨A3, c3, hv3⟩ := own_form hown
    subst hv3
    have hn8 := HS.out.plans
    have hlenk : (firstTo l.plans k).length = k := by unfold firstTo; rw [List.length_map, List.length_take]; omega
    by_cases hkn : k < l.plans.length
    · have hkl : (k : Int) < (l.plans.length : Int) := by omega
      have hlenL := Lib.hid (show (firstTo l.plans k).length ≤ 100 by omega)
      obtain ⟨p, hp⟩ : ∃ p, l.plans[k]? = some p := ⟨_, List.getElem?_eq_getElem hkn⟩
      obtain ⟨bS8, oS8, A8, c8, hAS8, hbS8, q8_0, q8_1, hrow8⟩ := RowP.at_ (H.out.below hb) hp
      subst hAS8
      obtain ⟨w8, hw8⟩ : ∃ W, W = wr.alloc (.cells #[.int .i64 p.id, .slice A8 p.ports.length c8] 61) := ⟨_, rfl⟩
      have bb8 : Below wr.heap.size wr w8 := by rw [hw8]; exact (Below.refl _ _).alloc (Nat.le_refl _) _
      have b8 := Lib.hid (bt hb bb8)
      have X8 := Lib.hid (show Bx w8 wr.heap.size 61 #[.int .i64 p.id, .slice A8 p.ports.length c8] by rw [hw8]; exact Bx.new _ _ _ rfl)
      have R8 := Lib.hid (hrow8.below bb8)
      clear hrow8
      have hsl1 := firstTo_succ hp
      obtain ⟨J, hJ⟩ : ∃ J, firstTo l.plans k = J := ⟨_, rfl⟩
      rw [hJ] at hown hsl1 hlenL hlenk ⊢
      have own8 := Lib.hid (hown.below bb8)
      have X8l := Lib.hid (hX.below bb8)
      have hsz8 := Lib.hid (Nat.le_trans hsz bb8.size)
      replace hJ := Lib.hid hJ
      replace hsl1 := Lib.hid hsl1
      clear hown hX hsz
      replace hp := Lib.hid hp
      clear hb bb8
      go_upto_region 5 with fail
      rw [← hw8]
      clear hw8 q8_0 q8_1 hbS8
      have o8_0 := X8.out.c (i := 0) rfl
      have o8_1 := X8.out.c (i := 1) rfl
      have zz8 := X8.out.lt
      obtain ⟨w9, hw9⟩ : ∃ W, W = w8.alloc (.cells #[.int .i64 p.id, .int .i64 0] 46) := ⟨_, rfl⟩
      have b9 : Below w8.heap.size w8 w9 := by rw [hw9]; exact (Below.refl _ _).alloc (Nat.le_refl _) _
      have hsl := Lib.hid (show Sl w9 2 (some ⟨w8.heap.size, 0, none⟩) ([(p.id, (0 : Int))].map hc) from bx_sl (T := 46) (vals := #[.int .i64 p.id, .int .i64 0]) (by rw [hw9]; exact Bx.new _ _ _ rfl) rfl (by intro c hc; simp at hc; subst hc; rfl))
      have own9 := Lib.hid (own8.out.below b9)
      have hb9 := Lib.hid (bt b8.out b9)
      have hn1 : Hid ((J.map hc).length + ([(p.id, (0 : Int))].map hc).length ≤ 1000000) := Lib.hid (by rw [List.length_map]; have := hlenL.out; simp; omega)
      have hvl : Hid ((J.map hc).length = J.length) := Lib.hid (by rw [List.length_map])
      have hB2 : Hid (w.heap.size ≤ w9.heap.size) := Lib.hid hb9.out.size
      have hlt9 := Lib.hid (show ∀ j, (Value.slice A3 J.length c3).ownBlock = some j → w.heap.size ≤ j from fun j hj => by have := (own9.out.lt j hj).1; have := hw00.out; omega)
      replace hB2 := Lib.hid (show bz ≤ w9.heap.size from Nat.le_trans hsz8.out b9.size)
      have X9l := Lib.hid (X8l.out.below b9)
      clear b9
      go_wp2_with (at_builtin; rw [← hw9]; (refine wpList_append_sl rfl (.tmp 16) (.tmp 20) 47 rfl elB (by rfl) own9.out (by rfl) (by rfl) hsl.out (wholeH _) (fun h => by cases h) hn1.out hB2.out ?_); intro v' w4 own1 grow1 _)
      have b4 : Below w.heap.size w w4 := hb9.out.grown grow1 hb9.out.size (fun j hj => hlt9.out j hj)
      have hX4 := X9l.out.grown grow1 (fun e => by have := (own9.out.lt _ e.symm).1; have := hw00.out; omega)
      have hsz4 := Nat.le_trans hB2.out grow1.size
      clear grow1
      go_roundw
      case rel => exact ⟨k + 1, by omega, by go_num, by rw [hsl1.out]; exact own_snoc own1, hsz4, hX4, b4⟩
      case measure => simp [intOf]; omega
    · obtain rfl : k = l.plans.length := by omega
      rw [bests_zero] at hown hlenk ⊢
      have x1 := hX.c (i := 1) rfl
      have zz := hX.lt
      have O2 := Lib.hid hown
      have X2 := Lib.hid hX
      have B2 := Lib.hid hb
      have hsz2 := Lib.hid hsz
      clear hown hX hb hsz hlenk
      obtain ⟨wo, hwo⟩ : ∃ W, W = wr := ⟨_, rfl⟩
      subst hwo
      go_wp2_with fail
      clear x1 zz
      go_loopw [3, 26] (fun v i wr => ∃ k : Nat, k ≤ l.plans.length ∧ i = .int .i64 k ∧ Own wr bz 46 2 v ((bests l k).map hc) ∧ bz ≤ wr.heap.size ∧ Bx wr w.heap.size 25 (lc l A c B d) ∧ Below w.heap.size w wr) (fun _ i _ => l.plans.length - (intOf i).toNat)
      case atStart => exact ⟨0, by omega, rfl, O2.out, hsz2.out, X2.out, B2.out⟩
      case round =>
        clear O2 X2 B2 hsz2
        obtain ⟨i, hi, rfl, hown, hsz, hX, hb⟩ := hrel
        obtain ⟨A3, c3, hv3⟩ := own_form hown
        subst hv3
        obtain ⟨wn0, hwn0⟩ : ∃ W, W = wr := ⟨_, rfl⟩
        subst hwn0
        have hJb8 := HB.out i
        obtain ⟨J, hJ⟩ : ∃ J, bests l i = J := ⟨_, rfl⟩
        have hJl : J.length = l.plans.length := by rw [← hJ, bests_len]
        rw [hJ] at hown hJb8 ⊢
        have hJb := Lib.hid (show ∀ y ∈ J, 0 ≤ y.2 ∧ y.2 ≤ 1000000 from fun y hy => by have := hJb8 y hy; omega)
        clear hJb8
        by_cases hin : i < l.plans.length
        · have hkl : (i : Int) < (l.plans.length : Int) := by omega
          obtain ⟨gn, hgn⟩ : ∃ g, g = wn0.heap.size := ⟨_, rfl⟩
          obtain ⟨wn, hwn⟩ : ∃ W, W = wn0.alloc (.cells #[] 46) := ⟨_, rfl⟩
          have bbn : Below wn0.heap.size wn0 wn := by rw [hwn]; exact (Below.refl _ _).alloc (Nat.le_refl _) _
          have On := Lib.hid (show Own wn gn 46 2 (.slice (some ⟨gn, 0, none⟩) 0 0) [] by rw [hwn, hgn]; exact own_lit0 wn0 _ _)
          have RJ := Lib.hid (Row.own (hown.below bbn) (by decide))
          have hfar := Lib.hid (show ∀ a, A3 = some a → a.block < gn from fun a ha => by rw [hgn]; exact (own_far hown a ha).2)
          have Xn := Lib.hid (hX.below bbn)
          have Bn := Lib.hid (bt hb bbn)
          have hszn := Lib.hid (show gn ≤ wn.heap.size by rw [hgn]; exact bbn.size)
          have hwg := Lib.hid (show w.heap.size < gn by rw [hgn]; exact hX.lt)
          have hbg := Lib.hid (show bz ≤ gn by rw [hgn]; exact hsz)
          replace hJ := Lib.hid hJ
          have hJL := Lib.hid hJl
          clear hown hX hb hsz bbn hJl
          go_upto_region 10 with fail
          rw [← hwn, ← hgn]
          clear hwn
          replace hgn := Lib.hid hgn
          have x1 := Xn.out.c (i := 1) rfl
          have zz := Xn.out.lt
          go_wp2_with fail
          clear x1 zz
          go_loopw [6, 32] (fun v q wr => ∃ j : Nat, j ≤ l.plans.length ∧ q = .int .i64 j ∧ Own wr gn 46 2 v ((nearTo l J j).map hc) ∧ gn ≤ wr.heap.size ∧ Row hc 2 wr A3 J.length c3 J ∧ Bx wr w.heap.size 25 (lc l A c B d) ∧ Below w.heap.size w wr) (fun _ q _ => l.plans.length - (intOf q).toNat)
          case atStart => exact ⟨0, by omega, rfl, On.out, hszn.out, RJ.out, Xn.out, Bn.out⟩
          case round =>
            clear On RJ Xn Bn hszn
            obtain ⟨j, hj, rfl, hown, hsz, hR, hX, hb⟩ := hrel
            obtain ⟨A4, c4, hv4⟩ := own_form hown
            subst hv4
            by_cases hjn : j < l.plans.length
            · have hjl : (j : Int) < (l.plans.length : Int) := by omega
              have hN := Lib.hid (t_near (HL.out.below hb) HS.out hR hJL.out HC.out hJb.out j hjn rfl)
              have hs1 := nearTo_succ l J j
              have hlenL := Lib.hid (show (nearTo l J j).length ≤ 100 by rw [nearTo_len]; omega)
              obtain ⟨r, hr9⟩ : ∃ r, near l J j = r := ⟨_, rfl⟩
              rw [hr9] at hN hs1
              obtain ⟨K, hK⟩ : ∃ K, nearTo l J j = K := ⟨_, rfl⟩
              rw [hK] at hown hs1 hlenL ⊢
              replace hr9 := Lib.hid hr9
              replace hK := Lib.hid hK
              replace hs1 := Lib.hid hs1
              have x0 := hX.c (i := 0) rfl
              have x1 := hX.c (i := 1) rfl
              have x2 := hX.c (i := 2) rfl
              have zz := hX.lt
              replace hX := Lib.hid hX
              replace hR := Lib.hid hR
              replace hown := Lib.hid hown
              replace hb := Lib.hid hb
              replace hsz := Lib.hid hsz
              go_wp2_with fail
              go_at_call 34
              (with_reducible refine hN.out.mono ?_)
              rintro e w7 ⟨rfl, hb7⟩
              have X7 := Lib.hid (hX.out.below hb7)
              have R7 := Lib.hid (hR.out.below hb7)
              have own7 := Lib.hid (hown.out.below hb7)
              have b7 := Lib.hid (bt hb.out hb7)
              have hsz7 := Lib.hid (Nat.le_trans hsz.out hb7.size)
              clear hb7 hX hR hown hb hsz x0 x1 x2 zz hN
              obtain ⟨w9, hw9⟩ : ∃ W, W = w7.alloc (.cells #[.int .i64 r.1, .int .i64 r.2] 46) := ⟨_, rfl⟩
              have b9 : Below w7.heap.size w7 w9 := by rw [hw9]; exact (Below.refl _ _).alloc (Nat.le_refl _) _
              have hsl := Lib.hid (show Sl w9 2 (some ⟨w7.heap.size, 0, none⟩) ([r].map hc) from bx_sl (T := 46) (vals := #[.int .i64 r.1, .int .i64 r.2]) (by rw [hw9]; exact Bx.new _ _ _ rfl) rfl (by intro c hc; simp at hc; subst hc; rfl))
              have own9 := Lib.hid (own7.out.below b9)
              have hb9 := Lib.hid (bt b7.out b9)
              have hn1 : Hid ((K.map hc).length + ([r].map hc).length ≤ 1000000) := Lib.hid (by rw [List.length_map]; have := hlenL.out; simp; omega)
              have hvl : Hid ((K.map hc).length = K.length) := Lib.hid (by rw [List.length_map])
              have hB2 : Hid (w.heap.size ≤ w9.heap.size) := Lib.hid hb9.out.size
              have hlt9 := Lib.hid (show ∀ j, (Value.slice A4 K.length c4).ownBlock = some j → w.heap.size ≤ j from fun j hj => by have := (own9.out.lt j hj).1; have := hwg.out; omega)
              have hlo9 := Lib.hid (show ∀ j, (Value.slice A4 K.length c4).ownBlock = some j → gn ≤ j from fun j hj => And.left (own9.out.lt j hj))
              replace hB2 := Lib.hid (show gn ≤ w9.heap.size from Nat.le_trans hsz7.out b9.size)
              have X9l := Lib.hid (X7.out.below b9)
              have R9l := Lib.hid (R7.out.below b9)
              clear b9
              go_wp2_with (at_builtin; rw [← hw9]; (refine wpList_append_sl rfl (.tmp 35) (.tmp 40) 47 rfl elB (by rfl) own9.out (by rfl) (by rfl) hsl.out (wholeH _) (fun h => by cases h) hn1.out hB2.out ?_); intro v' w4 own1 grow1 _)
              have b4 : Below w.heap.size w w4 := hb9.out.grown grow1 hb9.out.size (fun j hj => hlt9.out j hj)
              have hX4 := X9l.out.grown grow1 (fun e => by have := hlo9.out _ e.symm; have := hwg.out; omega)
              have hR4 := R9l.out.grown grow1 (fun a ha _ e => by have := hlo9.out _ e.symm; have := hfar.out a ha; omega)
              have hsz4 := Nat.le_trans hB2.out grow1.size
              have b5 : Below w.heap.size w w4 := hb9.out.grown grow1 hb9.out.size (fun j hj => hlt9.out j hj)
              clear grow1
              go_roundw
              case rel => exact ⟨j + 1, by omega, by go_num, by rw [hs1.out]; exact own_snoc own1, hsz4, hR4, hX4, b5⟩
              case measure => simp [intOf]; omega
            · obtain rfl : j = l.plans.length := by omega
              have hnx : nearTo l J l.plans.length = bests l (i + 1) := by rw [← hJ.out]; exact bests_succ l i
              rw [hnx] at hown ⊢
              replace hnx := Lib.hid hnx
              have hsz' := Nat.le_trans hbg.out hsz
              replace hown := Lib.hid (hown.base hbg.out)
              replace hX := Lib.hid hX
              replace hb := Lib.hid hb
              replace hsz' := Lib.hid hsz'
              clear hR hsz
              go_wp2_with fail
              go_roundw
              case rel => exact ⟨i + 1, by omega, by go_num, hown.out, hsz'.out, hX.out, hb.out⟩
              case measure => simp [intOf]; omega
        · obtain rfl : i = l.plans.length := by omega
          have hJe : J = l.bs := hJ.symm
          subst hJe
          replace hown := Lib.hid (hown.base (Nat.le_of_lt hw00.out))
          replace hb := Lib.hid hb
          clear hX hsz hJ
          go_wp2_with fail
          go_ret
          exact ⟨A3, c3, rfl, hown.out, hb.out⟩
end Go.Proofs.Ytplgaenfcaphnaa.LanP

/-
  Contracts of footwayref16's told, own.
-/
namespace Go.Proofs.Ytplgaenfcaphnaa.LanP
open Go.RowKit Go.Sort Go.Proofs.Ytplgaenfcaphnaa.SliceP Go.Proofs.Ytplgaenfcaphnaa.BoxP
open Go.Proofs.Ytplgaenfcaphnaa.IntP (RowI SlI OwnI)
open Go.Proofs.Ytplgaenfcaphnaa.BoolP (RowB SlB OwnB)
open Go.Proofs.Ytplgaenfcaphnaa.MacP (classI class_yes class_no ref_right_no ref_right_yes ref_class)
open Go.Proofs.Ytplgaenfcaphnaa.LruP (hasI placeI has_more has_hit place_hit place_none place_geq has_true has_false)
set_option linter.unusedVariables false
set_option maxRecDepth 100000
abbrev vtv (x : Vt) : Value := .agg #[.int .i64 x.1, .int .i64 x.2.1, .int .i64 x.2.2.1, .int .i64 x.2.2.2]
theorem Bx.setv4 {w : World} {b : Nat} {T : TypeId} {v0 v1 v2 v3 u0 u1 u2 u3 : Value} (h : Bx w b T #[v0, v1, v2, v3]) : Bx ((((w.setCell ⟨b, 0, none⟩ u0).setCell ⟨b, 1, none⟩ u1).setCell ⟨b, 2, none⟩ u2).setCell ⟨b, 3, none⟩ u3) b T #[u0, u1, u2, u3] := (((h.set 0 u0).set 1 u1).set 2 u2).set 3 u3
theorem below4 {w wr : World} {g : Nat} (h : Below w.heap.size w wr) (hg : w.heap.size ≤ g) (v0 v1 v2 v3 : Value) : Below w.heap.size w ((((wr.setCell ⟨g, 0, none⟩ v0).setCell ⟨g, 1, none⟩ v1).setCell ⟨g, 2, none⟩ v2).setCell ⟨g, 3, none⟩ v3) := (((h.setCell hg _).setCell hg _).setCell hg _).setCell hg _
def toldI (l : L) (I : List Bst) (p : Nat × Nat) : Vt := ((I.getD p.1 (0, 0)).1, (I.getD p.1 (0, 0)).2, (pl l p.1).id, (p.2 : Int))
theorem told_bs (l : L) (p : Nat × Nat) : toldI l l.bs p = told l p := rfl
set_option maxHeartbeats 4000000 in
theorem t_told {l : L} {A : Option Addr} {c : Nat} {B : Option Addr} {d : Nat} {w : World} (hr : LanR w l A c B d) (hs : Small l) {C : Option Addr} {e : Nat} {I : List Bst} (hI : Row hc 2 w C I.length e I) (hl : I.length = l.plans.length) (b k : Nat) (hb : b < l.plans.length) {r : Vt} (he : toldI l I (b, k) = r) :
    Calls Try.prog 59 #[lv l A c B d, .slice C I.length e, .int .i64 b, .int .i64 k] w fun en w' => en = .returned (vtv r) ∧ Below w.heap.size w w' := by
  subst he
  have hbl : (b : Int) < (I.length : Int) := by omega
  have hbl2 : (b : Int) < (l.plans.length : Int) := by omega
  have hn8 := hs.plans
  obtain ⟨pb, hpb⟩ : ∃ p, l.plans[b]? = some p := ⟨_, List.getElem?_eq_getElem hb⟩
  obtain ⟨a0, ha0⟩ : ∃ a, I[b]? = some a := ⟨_, List.getElem?_eq_getElem (by omega)⟩
  have hT := Lib.hid (show toldI l I (b, k) = (a0.1, a0.2, pb.id, (k : Int)) by unfold toldI pl; simp only [List.getD_eq_getElem?_getD, ha0, hpb, Option.getD_some])
  have HI := Lib.hid hI
  have H := Lib.hid hr.plans
  clear hI hl
  obtain ⟨w0, hw0, X0, R0, B0⟩ := new3 w hr
  replace X0 := Lib.hid X0
  replace B0 := Lib.hid B0
  clear hr hs R0
  obtain ⟨g1, hg1⟩ : ∃ g, g = w.heap.size + 1 := ⟨_, rfl⟩
  obtain ⟨w1, hw1⟩ : ∃ W, W = w0.alloc (.cells #[.int .i64 0, .int .i64 0, .int .i64 0, .int .i64 0] 103) := ⟨_, rfl⟩
  have bb1 : Below w0.heap.size w0 w1 := by rw [hw1]; exact (Below.refl _ _).alloc (Nat.le_refl _) _
  have Y1 := Lib.hid (show Bx w1 g1 103 #[.int .i64 0, .int .i64 0, .int .i64 0, .int .i64 0] by rw [hw1, hg1, show w.heap.size + 1 = w0.heap.size by rw [hw0]; simp]; exact Bx.new _ _ _ rfl)
  have X1 := Lib.hid (X0.out.below bb1)
  have B1 := Lib.hid (bt B0.out bb1)
  have hgg := Lib.hid (show w.heap.size ≤ g1 by omega)
  clear bb1
  go_enter Try.func59, Try.ntmps59
  go_upto_region 1 with fail
  rw [← hw0, ← hw1, ← hg1]
  clear hw0 hw1 hg1
  obtain ⟨bI, oI, hCC, hbI, q0, q1⟩ := Row.hat (HI.out.below B1.out) ha0
  subst hCC
  obtain ⟨bP, oP, A2, c2, hAA, hbP, p0, p1, hrow⟩ := RowP.at_ (H.out.below B1.out) hpb
  subst hAA
  clear hrow p1
  replace ha0 := Lib.hid ha0
  replace hpb := Lib.hid hpb
  have x1 := X1.out.c (i := 1) rfl
  have zz := X1.out.lt
  have y0 := Y1.out.c (i := 0) rfl
  have y1 := Y1.out.c (i := 1) rfl
  have y2 := Y1.out.c (i := 2) rfl
  have y3 := Y1.out.c (i := 3) rfl
  have f0 := Y1.out.f 0
  have f1 := Y1.out.f 1
  have f2 := Y1.out.f 2
  have f3 := Y1.out.f 3
  have yy := Y1.out.lt
  go_region
  obtain ⟨wz, hwz⟩ : ∃ W, W = (((((w1.setCell ⟨g1, 0, none⟩ (.int .i64 a0.1)).setCell ⟨g1, 1, none⟩ (.int .i64 a0.2)).setCell ⟨g1, 2, none⟩ (.int .i64 pb.id)).setCell ⟨g1, 3, none⟩ (.int .i64 (k : Int)))).drew := ⟨_, rfl⟩
  have Yz := Lib.hid (show Bx wz g1 103 #[.int .i64 a0.1, .int .i64 a0.2, .int .i64 pb.id, .int .i64 (k : Int)] by rw [hwz]; exact (Bx.setv4 Y1.out).below (Below.refl _ _).drew)
  have Bz := Lib.hid (show Below w.heap.size w wz by rw [hwz]; exact (below4 B1.out hgg.out _ _ _ _).drew)
  rw [← hwz]
  clear hwz x1 zz y0 y1 y2 y3 f0 f1 f2 f3 yy q0 q1 hbI p0 hbP
  have y0 := Yz.out.c (i := 0) rfl
  have y1 := Yz.out.c (i := 1) rfl
  have y2 := Yz.out.c (i := 2) rfl
  have y3 := Yz.out.c (i := 3) rfl
  go_wp2_with fail
  refine bodyPost_ret (v := vtv (a0.1, a0.2, pb.id, (k : Int))) (by simp [results, Try.results59, go_sem, y0, y1, y2, y3]) rfl ⟨by rw [hT.out], Bz.out⟩
end Go.Proofs.Ytplgaenfcaphnaa.LanP
