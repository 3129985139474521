/-
  Contracts of queue: Push.
-/
import Derived.Test.YtimpngmmmoaejaaQueueD
import Derived.Deep.RegionWith
namespace Go.Proofs.Ytimpngmmmoaejaa.ChanP
open Go.RowKit Go.Sort Go.Conc Go.Proofs.Ytimpngmmmoaejaa.SliceP Go.Proofs.Ytimpngmmmoaejaa.BoxP Go.Proofs.Ytimpngmmmoaejaa.StrP
set_option linter.unusedVariables false
set_option maxRecDepth 100000

set_option maxHeartbeats 8000000 in
theorem q_push_bad {A : Option Addr} {n c : Nat} {l : List ByteArray} (cap lost : Int) (s : ByteArray) {w : World} (ht : RowS w A n c l) (hs : l.length ≤ 100000) (hz : ∀ x ∈ l, x.size ≤ 1000000) (hsz : s.size ≤ 1000000) (hr : (rightQ cap l lost && !decide (114 < (s.size : Int))) = false) :
    Calls Try.prog 7 #[qv cap (.slice A n c) lost, .string s] w fun e w' => e = .returned (.tuple #[nilQ, .bool false, .int .i64 1]) ∧ Below w.heap.size w w' := by
  obtain rfl := ht.len
  obtain ⟨w0, hw0⟩ : ∃ W, W = (w.alloc (qo cap (.slice A l.length c) lost)).alloc (qo 0 (.slice none 0 0) 0) := ⟨_, rfl⟩
  have B0 := Lib.hid (show Below w.heap.size w w0 by rw [hw0]; exact w2_below _ _ _ _ _ _)
  have Y := Lib.hid (show Bx w0 w.heap.size QT #[.int .i64 cap, .slice A l.length c, .int .i64 lost] by rw [hw0]; exact w2_y _ _ _ _ _ _)
  have X := Lib.hid (show Bx w0 (w.heap.size + 1) QT #[.int .i64 0, .slice none 0 0, .int .i64 0] by rw [hw0]; exact w2_x _ _ _ _ _ _)
  have R := Lib.hid (q_right cap lost (ht.below B0.out) hs hz)
  obtain ⟨y0, y1, y2⟩ := Bx.c3 Y.out
  have hyl := Y.out.lt
  clear ht hz
  cases hq : rightQ cap l lost with
  | false =>
    rw [hq] at R
    clear hr hq
    go_enter Try.func7, Try.ntmps7
    go_wp2_with fail
    rw [← hw0]
    clear hw0
    go_at_call 10
    (with_reducible refine R.out.mono ?_)
    rintro e w1 ⟨rfl, hb1⟩
    have B1 := Lib.hid (bt B0.out hb1)
    have X1 := Lib.hid (X.out.below hb1)
    clear hb1 y0 y1 y2 hyl R Y X B0
    obtain ⟨x0, x1, x2⟩ := Bx.c3 X1.out
    have hxl := X1.out.lt
    have f0 := X1.out.f 0
    have f1 := X1.out.f 1
    have f2 := X1.out.f 2
    go_wp2_with fail
    refine bodyPost_ret (v := .tuple #[nilQ, .bool false, .int .i64 1]) (by simp [results, Try.results7, go_sem, x0, x1, x2]) rfl ⟨rfl, ?_⟩
    exact below3 B1.out (by omega) _ _ _
  | true =>
    rw [hq] at R hr
    have hlong : (114 : Int) < s.size := by simpa using hr
    clear hr hq
    go_enter Try.func7, Try.ntmps7
    go_wp2_with fail
    rw [← hw0]
    clear hw0
    go_at_call 10
    (with_reducible refine R.out.mono ?_)
    rintro e w1 ⟨rfl, hb1⟩
    have B1 := Lib.hid (bt B0.out hb1)
    have X1 := Lib.hid (X.out.below hb1)
    clear hb1 y0 y1 y2 hyl R Y X B0
    obtain ⟨x0, x1, x2⟩ := Bx.c3 X1.out
    have hxl := X1.out.lt
    have f0 := X1.out.f 0
    have f1 := X1.out.f 1
    have f2 := X1.out.f 2
    go_wp2_with fail
    refine bodyPost_ret (v := .tuple #[nilQ, .bool false, .int .i64 1]) (by simp [results, Try.results7, go_sem, x0, x1, x2]) rfl ⟨rfl, ?_⟩
    exact below3 B1.out (by omega) _ _ _
set_option maxHeartbeats 8000000 in
theorem q_push_full {A : Option Addr} {n c : Nat} {l : List ByteArray} (cap lost : Int) (s : ByteArray) {w : World} (ht : RowS w A n c l) (hs : l.length ≤ 100000) (hz : ∀ x ∈ l, x.size ≤ 1000000) (hsz : s.size ≤ 114) (hr : rightQ cap l lost = true) (hf : ((l.length : Int) == cap) = true) :
    Calls Try.prog 7 #[qv cap (.slice A n c) lost, .string s] w fun e w' => ∃ A' c', e = .returned (.tuple #[qv cap (.slice A' l.length c') (min (lost + 1) 1000000), .bool false, .int .i64 0]) ∧ OwnS w' w.heap.size (.slice A' l.length c') l ∧ Below w.heap.size w w' := by
  have h45 : 0 ≤ lost ∧ lost ≤ 1000000 := by
    unfold rightQ at hr
    simp only [Bool.and_eq_true, decide_eq_true_eq] at hr
    exact ⟨hr.2.2.2.2.1, hr.2.2.2.2.2⟩
  obtain rfl := ht.len
  obtain ⟨w0, hw0⟩ : ∃ W, W = (w.alloc (qo cap (.slice A l.length c) lost)).alloc (qo 0 (.slice none 0 0) 0) := ⟨_, rfl⟩
  have B0 := Lib.hid (show Below w.heap.size w w0 by rw [hw0]; exact w2_below _ _ _ _ _ _)
  have Y := Lib.hid (show Bx w0 w.heap.size QT #[.int .i64 cap, .slice A l.length c, .int .i64 lost] by rw [hw0]; exact w2_y _ _ _ _ _ _)
  have X := Lib.hid (show Bx w0 (w.heap.size + 1) QT #[.int .i64 0, .slice none 0 0, .int .i64 0] by rw [hw0]; exact w2_x _ _ _ _ _ _)
  have R := q_right cap lost (ht.below B0.out) hs hz
  rw [hr] at R
  replace R := Lib.hid R
  have T := Lib.hid (ht.below B0.out)
  obtain ⟨m, hm⟩ : ∃ m, min (lost + 1) 1000000 = m := ⟨_, rfl⟩
  have LO := Lib.hid (fun A n c w => (by have := q_lose cap lost A n c 1 w (by omega) h45.1 h45.2; rwa [show ((1 : Nat) : Int) = 1 from rfl, hm] at this : Calls Try.prog 18 #[qv cap (.slice A n c) lost, .int .i64 1] w fun e w' => e = .returned (qv cap (.slice A n c) m) ∧ Below w.heap.size w w'))
  rw [hm]
  have hlong : ¬ (114 : Int) < s.size := by omega
  obtain ⟨y0, y1, y2⟩ := Bx.c3 Y.out
  have hyl := Y.out.lt
  have hS := Lib.hid hs
  clear ht hz hr hm h45 hs hsz
  go_enter Try.func7, Try.ntmps7
  go_wp2_with fail
  rw [← hw0]
  clear hw0
  go_at_call 10
  (with_reducible refine R.out.mono ?_)
  rintro e w1 ⟨rfl, hb1⟩
  have B1 := Lib.hid (bt B0.out hb1)
  have X1 := Lib.hid (X.out.below hb1)
  have Y1 := Lib.hid (Y.out.below hb1)
  have L := Lib.hid (fun W (hB : Below w1.heap.size w1 W) => line_of cap lost (T.out.below (bt hb1 hB)) hS.out)
  have QO := Lib.hid (fun W b (hC : ChS W b l) => queue_of cap lost (.slice A l.length c) hC (RowS.empty W) (nilRow_b b) hS.out (by simp))
  clear hb1 y0 y1 y2 hyl R Y X B0 T
  obtain ⟨y0, y1, y2⟩ := Bx.c3 Y1.out
  have hyl := Y1.out.lt
  have hxl1 := Lib.hid X1.out.lt
  go_wp2_with fail
  go_region_with (first
    | (go_at_call 20; (with_reducible refine (L.out _ (Below.refl _ _).drew).mono ?_); rintro e w2 ⟨b, rfl, hbb, hC, hB2⟩
       have b2 := Lib.hid (bt (show Below w1.heap.size w1 w1.drew from (Below.refl _ _).drew) hB2)
       obtain ⟨z0, z1, z2⟩ := Bx.c3 (Y1.out.below b2.out)
       have hyl2 := (Y1.out.below b2.out).lt
       have hbb' := Lib.hid (show w1.heap.size ≤ b from hbb)
       clear hB2 hbb)
    | (go_at_call 19; (with_reducible refine (QO.out _ b hC).mono ?_); intro e w3 h3
       rw [List.append_nil] at h3
       obtain ⟨A3, c3, rfl, T3, G3⟩ := h3
       have X2 := X1.out.below b2.out
       have X3 := Lib.hid (Bx.grownB X2 G3 (by have := hxl1.out; have := hbb'.out; omega))
       have B3 := Lib.hid (show Below w.heap.size w w3 from (bt B1.out b2.out).trans (gBelow G3 (by have := hyl; have := hbb'.out; omega) (bt B1.out b2.out).size))
       have hx2 := Lib.hid X2.lt
       replace T3 := Lib.hid T3
       clear X2 G3 hC z0 z1 z2 hyl2)
    | (go_at_call 18; (with_reducible refine (LO.out _ _ _ _).mono ?_); rintro e w4 ⟨rfl, hb4⟩
       have X4 := Lib.hid (X3.out.below hb4)
       have B4 := Lib.hid (bt B3.out hb4)
       have T4 := Lib.hid (show OwnS w4 w2.heap.size (.slice A3 l.length c3) l from T3.out.below hb4)
       clear hb4 T3 B3 X3
       obtain ⟨x0, x1, x2⟩ := Bx.c3 X4.out
       have f0 := X4.out.f 0
       have f1 := X4.out.f 1
       have f2 := X4.out.f 2
       have hxl := X4.out.lt))
  all_goals
    go_wp2_with fail
    refine bodyPost_ret (v := .tuple #[qv cap (.slice A3 l.length c3) m, .bool false, .int .i64 0]) (by simp [results, Try.results7, go_sem, x0, x1, x2]) rfl ?_
    have TF := fun v1 v2 v3 => ((T4.out.set hx2.out 0 v1).set hx2.out 1 v2).set hx2.out 2 v3
    exact ⟨A3, c3, rfl, (TF _ _ _).base (bt B1.out b2.out).size, below3 B4.out (by omega) _ _ _⟩
end Go.Proofs.Ytimpngmmmoaejaa.ChanP
