/-
  Contracts of queue: Pop, Clear.
-/
import Derived.Test.YtimpngmmmoaejaaQueueC
namespace Go.Proofs.Ytimpngmmmoaejaa.ChanP
open Go.RowKit Go.Sort Go.Conc Go.Proofs.Ytimpngmmmoaejaa.SliceP Go.Proofs.Ytimpngmmmoaejaa.BoxP Go.Proofs.Ytimpngmmmoaejaa.StrP
set_option linter.unusedVariables false
set_option maxRecDepth 100000

abbrev emptyS : ByteArray := ⟨#[]⟩
theorem nilRow_b (b : Nat) : ∀ g o, (none : Option Addr) = some ⟨g, o, none⟩ → g ≠ b := fun g o h => by cases h
/-- Two boxes at the beginning: the queue, and an empty one. -/
def w2 (w : World) (cap lost : Int) (A : Option Addr) (n c : Nat) : World := (w.alloc (qo cap (.slice A n c) lost)).alloc (qo 0 (.slice none 0 0) 0)
section
variable (w : World) (cap lost : Int) (A : Option Addr) (n c : Nat)
theorem w2_below : Below w.heap.size w (w2 w cap lost A n c) := ((Below.refl _ _).alloc (Nat.le_refl _) _).alloc (by simp) _
theorem w2_y : Bx (w2 w cap lost A n c) w.heap.size QT #[.int .i64 cap, .slice A n c, .int .i64 lost] := (Bx.new w _ _ rfl).alloc _
theorem w2_x : Bx (w2 w cap lost A n c) (w.heap.size + 1) QT #[.int .i64 0, .slice none 0 0, .int .i64 0] := Bx.new _ _ _ (by simp)
end
set_option maxHeartbeats 8000000 in
theorem q_pop_bad {A : Option Addr} {n c : Nat} {l : List ByteArray} (cap lost : Int) {w : World} (ht : RowS w A n c l) (hs : l.length ≤ 100000) (hz : ∀ x ∈ l, x.size ≤ 1000000) (hr : rightQ cap l lost = false) :
    Calls Try.prog 8 #[qv cap (.slice A n c) lost] w fun e w' => e = .returned (.tuple #[nilQ, .string emptyS, .int .i64 1]) ∧ Below w.heap.size w w' := by
  obtain rfl := ht.len
  obtain ⟨w0, hw0⟩ : ∃ W, W = (w.alloc (qo cap (.slice A l.length c) lost)).alloc (qo 0 (.slice none 0 0) 0) := ⟨_, rfl⟩
  have B0 := Lib.hid (show Below w.heap.size w w0 by rw [hw0]; exact w2_below _ _ _ _ _ _)
  have Y := Lib.hid (show Bx w0 w.heap.size QT #[.int .i64 cap, .slice A l.length c, .int .i64 lost] by rw [hw0]; exact w2_y _ _ _ _ _ _)
  have X := Lib.hid (show Bx w0 (w.heap.size + 1) QT #[.int .i64 0, .slice none 0 0, .int .i64 0] by rw [hw0]; exact w2_x _ _ _ _ _ _)
  have R := q_right cap lost (ht.below B0.out) hs hz
  rw [hr] at R
  replace R := Lib.hid R
  obtain ⟨y0, y1, y2⟩ := Bx.c3 Y.out
  have hyl := Y.out.lt
  clear ht hz hr
  go_enter Try.func8, Try.ntmps8
  go_wp2_with fail
  rw [← hw0]
  clear hw0
  go_at_call 10
  (with_reducible refine R.out.mono ?_)
  rintro e w1 ⟨rfl, hb1⟩
  have B1 := Lib.hid (bt B0.out hb1)
  have X1 := Lib.hid (X.out.below hb1)
  clear hb1 y0 y1 y2 hyl R Y X B0
  obtain ⟨x0, x1, x2⟩ := Bx.c3 X1.out
  have hxl := X1.out.lt
  have f0 := X1.out.f 0
  have f1 := X1.out.f 1
  have f2 := X1.out.f 2
  go_wp2_with fail
  refine bodyPost_ret (v := .tuple #[nilQ, .string emptyS, .int .i64 1]) (by simp [results, Try.results8, go_sem, x0, x1, x2]) rfl ⟨rfl, ?_⟩
  exact below3 B1.out (by omega) _ _ _
set_option maxHeartbeats 8000000 in
theorem q_pop_none {A : Option Addr} {n c : Nat} (cap lost : Int) {w : World} (ht : RowS w A n c []) (hr : rightQ cap [] lost = true) :
    Calls Try.prog 8 #[qv cap (.slice A n c) lost] w fun e w' => e = .returned (.tuple #[nilQ, .string emptyS, .int .i64 4]) ∧ Below w.heap.size w w' := by
  obtain rfl : n = 0 := ht.len
  obtain ⟨w0, hw0⟩ : ∃ W, W = (w.alloc (qo cap (.slice A 0 c) lost)).alloc (qo 0 (.slice none 0 0) 0) := ⟨_, rfl⟩
  have B0 := Lib.hid (show Below w.heap.size w w0 by rw [hw0]; exact w2_below _ _ _ _ _ _)
  have Y := Lib.hid (show Bx w0 w.heap.size QT #[.int .i64 cap, .slice A 0 c, .int .i64 lost] by rw [hw0]; exact w2_y _ _ _ _ _ _)
  have X := Lib.hid (show Bx w0 (w.heap.size + 1) QT #[.int .i64 0, .slice none 0 0, .int .i64 0] by rw [hw0]; exact w2_x _ _ _ _ _ _)
  have R := q_right cap lost (ht.below B0.out) (by simp) (fun x h => by cases h)
  rw [hr] at R
  replace R := Lib.hid R
  have T := Lib.hid (ht.below B0.out)
  obtain ⟨y0, y1, y2⟩ := Bx.c3 Y.out
  have hyl := Y.out.lt
  clear ht hr
  go_enter Try.func8, Try.ntmps8
  go_wp2_with fail
  rw [← hw0]
  clear hw0
  go_at_call 10
  (with_reducible refine R.out.mono ?_)
  rintro e w1 ⟨rfl, hb1⟩
  have B1 := Lib.hid (bt B0.out hb1)
  have X1 := Lib.hid (X.out.below hb1)
  have Y1 := Lib.hid (Y.out.below hb1)
  have L := Lib.hid (line_of cap lost (T.out.below hb1) (by simp))
  clear hb1 y0 y1 y2 hyl R Y X B0 T
  obtain ⟨y0, y1, y2⟩ := Bx.c3 Y1.out
  have hyl := Y1.out.lt
  go_wp2_with fail
  go_at_call 20
  (with_reducible refine L.out.mono ?_)
  rintro e w3 ⟨b, rfl, hbb, hC, hB1⟩
  have B3 := Lib.hid (bt B1.out hB1)
  have X3 := Lib.hid (X1.out.below hB1)
  clear hB1 y0 y1 y2 hyl Y1 X1 B1 L hbb
  obtain ⟨cp, s, r, hch⟩ := hC
  go_upto_region 4 with fail
  refine wp_region_at ?_
  refine AtOps.move rfl rfl rfl ?_
  refine AtOps.recv_shut rfl rfl (rs w3 _ b 15 _ rfl rfl) hch ?_
  refine AtOps.move rfl rfl rfl ?_
  refine AtOps.extract rfl rfl rfl rfl rfl ?_
  refine AtOps.extract rfl rfl rfl rfl rfl ?_
  refine AtOps.assign rfl rfl rfl ?_
  refine AtOps.assign rfl rfl rfl ?_
  refine AtOps.nil ?_
  clear hch
  obtain ⟨x0, x1, x2⟩ := Bx.c3 X3.out
  have hxl := X3.out.lt
  have f0 := X3.out.f 0
  have f1 := X3.out.f 1
  have f2 := X3.out.f 2
  go_wp2_with fail
  refine bodyPost_ret (v := .tuple #[nilQ, .string emptyS, .int .i64 4]) (by simp [results, Try.results8, go_sem, x0, x1, x2]) rfl ⟨rfl, ?_⟩
  exact below3 B3.out (by omega) _ _ _
set_option maxHeartbeats 8000000 in
theorem q_pop {A : Option Addr} {n c : Nat} {x : ByteArray} {l : List ByteArray} (cap lost : Int) {w : World} (ht : RowS w A n c (x :: l)) (hs : (x :: l).length ≤ 100000) (hz : ∀ y ∈ x :: l, y.size ≤ 1000000) (hr : rightQ cap (x :: l) lost = true) :
    Calls Try.prog 8 #[qv cap (.slice A n c) lost] w fun e w' => ∃ A' c', e = .returned (.tuple #[qv cap (.slice A' l.length c') lost, .string x, .int .i64 0]) ∧ OwnS w' w.heap.size (.slice A' l.length c') l ∧ Below w.heap.size w w' := by
  obtain rfl := ht.len
  obtain ⟨n9, hn9⟩ : ∃ n, n = (x :: l).length := ⟨_, rfl⟩
  rw [← hn9] at ht ⊢
  obtain ⟨w0, hw0⟩ : ∃ W, W = (w.alloc (qo cap (.slice A n9 c) lost)).alloc (qo 0 (.slice none 0 0) 0) := ⟨_, rfl⟩
  have B0 := Lib.hid (show Below w.heap.size w w0 by rw [hw0]; exact w2_below _ _ _ _ _ _)
  have Y := Lib.hid (show Bx w0 w.heap.size QT #[.int .i64 cap, .slice A n9 c, .int .i64 lost] by rw [hw0]; exact w2_y _ _ _ _ _ _)
  have X := Lib.hid (show Bx w0 (w.heap.size + 1) QT #[.int .i64 0, .slice none 0 0, .int .i64 0] by rw [hw0]; exact w2_x _ _ _ _ _ _)
  have R := q_right cap lost (ht.below B0.out) hs hz
  rw [hr] at R
  replace R := Lib.hid R
  have T := Lib.hid (ht.below B0.out)
  have hS := Lib.hid hs
  obtain ⟨y0, y1, y2⟩ := Bx.c3 Y.out
  have hyl := Y.out.lt
  replace hn9 := Lib.hid hn9
  clear ht hr hz hs
  go_enter Try.func8, Try.ntmps8
  go_wp2_with fail
  rw [← hw0]
  clear hw0
  go_at_call 10
  (with_reducible refine R.out.mono ?_)
  rintro e w1 ⟨rfl, hb1⟩
  have B1 := Lib.hid (bt B0.out hb1)
  have X1 := Lib.hid (X.out.below hb1)
  have Y1 := Lib.hid (Y.out.below hb1)
  have L := Lib.hid (line_of cap lost (T.out.below hb1) hS.out)
  clear hb1 y0 y1 y2 hyl R Y X B0 T
  obtain ⟨y0, y1, y2⟩ := Bx.c3 Y1.out
  have hyl := Y1.out.lt
  have hxl1 := Lib.hid X1.out.lt
  go_wp2_with fail
  go_at_call 20
  (with_reducible refine L.out.mono ?_)
  rintro e w3 ⟨b, rfl, hbb, hC, hB1⟩
  have B3 := Lib.hid (bt B1.out hB1)
  have X3 := Lib.hid (X1.out.below hB1)
  have Y3 := Lib.hid (Y1.out.below hB1)
  have hwb : Hid (w.heap.size ≠ b) := Lib.hid (by omega)
  have hqb : Hid (w.heap.size + 1 ≠ b) := Lib.hid (by have := hxl1.out; omega)
  have hwB : Hid (w.heap.size ≤ b) := Lib.hid (by omega)
  clear hB1 y0 y1 y2 hyl Y1 X1 B1 L hbb hxl1
  obtain ⟨cp, s, r, hch⟩ := hC
  have hbr := Lib.hid (show b < w3.heap.size from (Array.getElem?_eq_some_iff.1 hch).1)
  go_upto_region 4 with fail
  refine wp_region_at ?_
  refine AtOps.move rfl rfl rfl ?_
  refine AtOps.recv_buf rfl rfl (rs w3 _ b 15 _ rfl rfl) hch (by simp [strs]) ?_
  rw [strs_rest, strs_first]
  obtain ⟨w4, hw4⟩ : ∃ W, W = w3.setChan b cp (strs l) true s (r + 1) false := ⟨_, rfl⟩
  rw [← hw4]
  have G4 := Lib.hid (show w3.grownBy w4 (some b) by rw [hw4]; exact grown_setChan _ _ _ _ _ _ _ _)
  have C4 := Lib.hid (show ChS w4 b l by rw [hw4]; exact ⟨_, _, _, heap_setChan _ _ _ _ _ _ _ _ hbr.out⟩)
  refine AtOps.move rfl rfl rfl ?_
  refine AtOps.extract rfl rfl rfl rfl rfl ?_
  refine AtOps.extract rfl rfl rfl rfl rfl ?_
  refine AtOps.assign rfl rfl rfl ?_
  refine AtOps.assign rfl rfl rfl ?_
  refine AtOps.nil ?_
  have X4 := Lib.hid (Bx.grownB X3.out G4.out hqb.out)
  have Y4 := Lib.hid (Bx.grownB Y3.out G4.out hwb.out)
  have Q4 := Lib.hid (queue_of cap lost (.slice A n9 c) C4.out (RowS.empty w4) (nilRow_b b) (by have := hS.out; simp at this; omega) (by simp))
  clear hch hw4 X3 Y3
  obtain ⟨y0, y1, y2⟩ := Bx.c3 Y4.out
  have hyl := Y4.out.lt
  go_wp2_with fail
  go_at_call 19
  (with_reducible refine Q4.out.mono ?_)
  intro e w5 h5
  rw [List.append_nil] at h5
  obtain ⟨A5, c5, rfl, T5, G5⟩ := h5
  have X5 := Lib.hid (Bx.grownB X4.out G5 hqb.out)
  have B5 := Lib.hid (show Below w.heap.size w w5 from B3.out.trans (gBelow (G4.out.trans G5) hwB.out B3.out.size))
  have hxo := Lib.hid X4.out.lt
  obtain ⟨x0, x1, x2⟩ := Bx.c3 X5.out
  have f0 := X5.out.f 0
  have f1 := X5.out.f 1
  have f2 := X5.out.f 2
  have hxl := X5.out.lt
  replace T5 := Lib.hid T5
  obtain ⟨n8, hn8⟩ : ∃ n, n = l.length := ⟨_, rfl⟩
  rw [← hn8]
  replace hn8 := Lib.hid hn8
  clear G5 X4 Y4 Q4 y0 y1 y2 hyl
  go_wp2_with fail
  refine bodyPost_ret (v := .tuple #[qv cap (.slice A5 n8 c5) lost, .string x, .int .i64 0]) (by simp [results, Try.results8, go_sem, x0, x1, x2]) rfl ?_
  have TF := fun v1 v2 v3 => ((T5.out.set hxo.out 0 v1).set hxo.out 1 v2).set hxo.out 2 v3
  exact ⟨A5, c5, by rw [hn8.out], (TF _ _ _).base (Nat.le_trans B3.out.size G4.out.size), below3 B5.out (by omega) _ _ _⟩
set_option maxHeartbeats 8000000 in
theorem q_clear_bad {A : Option Addr} {n c : Nat} {l : List ByteArray} (cap lost : Int) {w : World} (ht : RowS w A n c l) (hs : l.length ≤ 100000) (hz : ∀ x ∈ l, x.size ≤ 1000000) (hr : rightQ cap l lost = false) :
    Calls Try.prog 9 #[qv cap (.slice A n c) lost] w fun e w' => e = .returned (.tuple #[nilQ, .int .i64 0, .int .i64 1]) ∧ Below w.heap.size w w' := by
  obtain rfl := ht.len
  obtain ⟨w0, hw0⟩ : ∃ W, W = (w.alloc (qo cap (.slice A l.length c) lost)).alloc (qo 0 (.slice none 0 0) 0) := ⟨_, rfl⟩
  have B0 := Lib.hid (show Below w.heap.size w w0 by rw [hw0]; exact w2_below _ _ _ _ _ _)
  have Y := Lib.hid (show Bx w0 w.heap.size QT #[.int .i64 cap, .slice A l.length c, .int .i64 lost] by rw [hw0]; exact w2_y _ _ _ _ _ _)
  have X := Lib.hid (show Bx w0 (w.heap.size + 1) QT #[.int .i64 0, .slice none 0 0, .int .i64 0] by rw [hw0]; exact w2_x _ _ _ _ _ _)
  have R := q_right cap lost (ht.below B0.out) hs hz
  rw [hr] at R
  replace R := Lib.hid R
  obtain ⟨y0, y1, y2⟩ := Bx.c3 Y.out
  have hyl := Y.out.lt
  clear ht hz hr
  go_enter Try.func9, Try.ntmps9
  go_wp2_with fail
  rw [← hw0]
  clear hw0
  go_at_call 10
  (with_reducible refine R.out.mono ?_)
  rintro e w1 ⟨rfl, hb1⟩
  have B1 := Lib.hid (bt B0.out hb1)
  have X1 := Lib.hid (X.out.below hb1)
  clear hb1 y0 y1 y2 hyl R Y X B0
  obtain ⟨x0, x1, x2⟩ := Bx.c3 X1.out
  have hxl := X1.out.lt
  have f0 := X1.out.f 0
  have f1 := X1.out.f 1
  have f2 := X1.out.f 2
  go_wp2_with fail
  refine bodyPost_ret (v := .tuple #[nilQ, .int .i64 0, .int .i64 1]) (by simp [results, Try.results9, go_sem, x0, x1, x2]) rfl ⟨rfl, ?_⟩
  exact below3 B1.out (by omega) _ _ _
set_option maxHeartbeats 8000000 in
theorem q_clear {A : Option Addr} {n c : Nat} {l : List ByteArray} (cap lost : Int) {w : World} (ht : RowS w A n c l) (hs : l.length ≤ 100000) (hz : ∀ x ∈ l, x.size ≤ 1000000) (hr : rightQ cap l lost = true) :
    Calls Try.prog 9 #[qv cap (.slice A n c) lost] w fun e w' => e = .returned (.tuple #[qv cap (.slice none 0 0) (min (lost + l.length) 1000000), .int .i64 l.length, .int .i64 0]) ∧ Below w.heap.size w w' := by
  have h45 : 0 ≤ lost ∧ lost ≤ 1000000 := by
    unfold rightQ at hr
    simp only [Bool.and_eq_true, decide_eq_true_eq] at hr
    exact ⟨hr.2.2.2.2.1, hr.2.2.2.2.2⟩
  obtain rfl := ht.len
  obtain ⟨w0, hw0⟩ : ∃ W, W = (w.alloc (qo cap (.slice A l.length c) lost)).alloc (qo 0 (.slice none 0 0) 0) := ⟨_, rfl⟩
  have B0 := Lib.hid (show Below w.heap.size w w0 by rw [hw0]; exact w2_below _ _ _ _ _ _)
  have Y := Lib.hid (show Bx w0 w.heap.size QT #[.int .i64 cap, .slice A l.length c, .int .i64 lost] by rw [hw0]; exact w2_y _ _ _ _ _ _)
  have X := Lib.hid (show Bx w0 (w.heap.size + 1) QT #[.int .i64 0, .slice none 0 0, .int .i64 0] by rw [hw0]; exact w2_x _ _ _ _ _ _)
  have R := q_right cap lost (ht.below B0.out) hs hz
  rw [hr] at R
  replace R := Lib.hid R
  have T := Lib.hid (ht.below B0.out)
  have hS := Lib.hid hs
  obtain ⟨y0, y1, y2⟩ := Bx.c3 Y.out
  have hyl := Y.out.lt
  obtain ⟨m, hm⟩ : ∃ m, min (lost + l.length) 1000000 = m := ⟨_, rfl⟩
  have LO := Lib.hid (fun w => q_lose cap lost none 0 0 l.length w (by omega) h45.1 h45.2)
  rw [hm] at LO ⊢
  clear ht hr hz hs hm h45
  go_enter Try.func9, Try.ntmps9
  go_wp2_with fail
  rw [← hw0]
  clear hw0
  go_at_call 10
  (with_reducible refine R.out.mono ?_)
  rintro e w1 ⟨rfl, hb1⟩
  have B1 := Lib.hid (bt B0.out hb1)
  have X1 := Lib.hid (X.out.below hb1)
  have Y1 := Lib.hid (Y.out.below hb1)
  have L := Lib.hid (line_of cap lost (T.out.below hb1) hS.out)
  clear hb1 y0 y1 y2 hyl R Y X B0 T
  obtain ⟨y0, y1, y2⟩ := Bx.c3 Y1.out
  have hyl := Y1.out.lt
  have hxl1 := Lib.hid X1.out.lt
  go_wp2_with fail
  go_at_call 20
  (with_reducible refine L.out.mono ?_)
  rintro e w3 ⟨b, rfl, hbb, hC, hB1⟩
  have B3 := Lib.hid (bt B1.out hB1)
  have X3 := Lib.hid (X1.out.below hB1)
  have Y3 := Lib.hid (Y1.out.below hB1)
  have hwb : Hid (w.heap.size ≠ b) := Lib.hid (by omega)
  have hqb : Hid (w.heap.size + 1 ≠ b) := Lib.hid (by have := hxl1.out; omega)
  have hwB : Hid (w.heap.size ≤ b) := Lib.hid (by omega)
  clear hB1 y0 y1 y2 hyl Y1 X1 B1 L hbb hxl1
  go_wp2_with fail
  go_loopw [5] (fun v5 wr => ∃ k : Nat, k ≤ l.length ∧ v5 = .int .i64 k ∧ w3.grownBy wr (some b) ∧ ChS wr b (l.drop k)) (fun v5 _ => l.length - (intOf v5).toNat)
  case atStart => exact ⟨0, by omega, rfl, grefl _ _, hC⟩
  case round =>
    obtain ⟨k, hk, rfl, hg, hch⟩ := hrel
    obtain ⟨cp, s, r, hch⟩ := hch
    have hbr := Lib.hid (show b < wr.heap.size from (Array.getElem?_eq_some_iff.1 hch).1)
    go_upto_region 5 with fail
    by_cases hlk : k < l.length
    · obtain ⟨x, hx⟩ : ∃ x, l[k]? = some x := ⟨_, List.getElem?_eq_getElem hlk⟩
      have hd : l.drop k = x :: l.drop (k + 1) := by rw [List.drop_eq_getElem_cons hlk]; rw [List.getElem?_eq_getElem hlk] at hx; injection hx with hx; rw [hx]
      rw [hd] at hch
      refine wp_region_at ?_
      refine AtOps.recv_buf rfl rfl (rs wr _ b 11 _ rfl rfl) hch (by simp [strs]) ?_
      rw [strs_rest, strs_first]
      obtain ⟨w4, hw4⟩ : ∃ W, W = wr.setChan b cp (strs (l.drop (k + 1))) true s (r + 1) false := ⟨_, rfl⟩
      rw [← hw4]
      have g2 := Lib.hid (show w3.grownBy w4 (some b) by rw [hw4]; exact hg.trans (grown_setChan _ _ _ _ _ _ _ _))
      have C2 := Lib.hid (show ChS w4 b (l.drop (k + 1)) by rw [hw4]; exact ⟨_, _, _, heap_setChan _ _ _ _ _ _ _ _ hbr.out⟩)
      have hlk' := Lib.hid hlk
      have hS' := hS.out
      clear hw4 hch hx hd hg hC
      refine AtOps.extract rfl rfl rfl rfl rfl ?_
      refine AtOps.nil ?_
      go_wp2_with fail
      go_roundw
      case rel => exact ⟨k + 1, by have := hlk'.out; omega, by go_num, g2.out, C2.out⟩
      case measure => have := hlk'.out; simp [intOf]; omega
    · obtain rfl : k = l.length := by omega
      rw [List.drop_length] at hch
      refine wp_region_at ?_
      refine AtOps.recv_shut rfl rfl (rs wr _ b 11 _ rfl rfl) hch ?_
      refine AtOps.extract rfl rfl rfl rfl rfl ?_
      refine AtOps.nil ?_
      have X4 := Lib.hid (Bx.grownB X3.out hg hqb.out)
      have Y4 := Lib.hid (Bx.grownB Y3.out hg hwb.out)
      have B4 := Lib.hid (show Below w.heap.size w wr from B3.out.trans (gBelow hg hwB.out B3.out.size))
      clear hch hg hC X3 Y3 B3
      obtain ⟨y0, y1, y2⟩ := Bx.c3 Y4.out
      have hyl := Y4.out.lt
      go_wp2_with fail
      go_at_call 18
      (with_reducible refine (LO.out _).mono ?_)
      rintro e w5 ⟨rfl, hb5⟩
      have X5 := Lib.hid (X4.out.below hb5)
      have B5 := Lib.hid (bt B4.out hb5)
      clear hb5 X4 Y4 B4 y0 y1 y2 hyl
      obtain ⟨x0, x1, x2⟩ := Bx.c3 X5.out
      have f0 := X5.out.f 0
      have f1 := X5.out.f 1
      have f2 := X5.out.f 2
      have hxl := X5.out.lt
      go_wp2_with fail
      refine bodyPost_ret (v := .tuple #[qv cap (.slice none 0 0) m, .int .i64 l.length, .int .i64 0]) (by simp [results, Try.results9, go_sem, x0, x1, x2]) rfl ⟨rfl, ?_⟩
      exact below3 B5.out (by omega) _ _ _
end Go.Proofs.Ytimpngmmmoaejaa.ChanP
