/-
  The contracts of port's own functions, where another layer calls them (Left not asked for).
-/
import Derived.Test.YtidoaccidmmalaaPortR
namespace Go.Proofs.Ytidoaccidmmalaa.PortP
open Go.RowKit Go.Sort Go.Proofs.Ytidoaccidmmalaa.BoxP
set_option linter.unusedVariables false
set_option maxRecDepth 100000
def RetSt (w : World) (x : Int × Int) (er : Int) (e : Ending) (w' : World) : Prop := e = .returned (.tuple #[sv x.1 x.2, .int .i64 er]) ∧ Below w.heap.size w w'
set_option maxHeartbeats 8000000 in
theorem p_right (s l d : Int) (w : World) : Calls Try.prog 37 #[sv s l, .int .i64 d] w fun e w' => e = .returned (.bool (okS s l d)) ∧ Below w.heap.size w w' := by
  have B := Lib.hid ((Below.refl w.heap.size w).alloc (Nat.le_refl _) (so s l))
  obtain ⟨r, hr⟩ : ∃ r, okS s l d = r := ⟨_, rfl⟩
  rw [hr]
  unfold okS at hr
  go_enter Try.func37, Try.ntmps37
  by_cases a1 : d < 1
  · simp only [a1, decide_true, Bool.not_true, Bool.false_and] at hr
    replace hr := Lib.hid hr
    go_wp2_with fail
    go_ret
    exact ⟨by rw [← hr.out]; rfl, B.out⟩
  · by_cases a2 : 30 < d
    · simp only [a1, a2, decide_true, decide_false, Bool.not_true, Bool.not_false, Bool.false_and, Bool.true_and] at hr
      replace hr := Lib.hid hr
      go_wp2_with fail
      go_ret
      exact ⟨by rw [← hr.out]; rfl, B.out⟩
    · simp only [a1, a2, decide_false, Bool.not_false, Bool.true_and] at hr
      by_cases b1 : s = 1 ∨ s = 2
      · rw [if_pos b1] at hr
        cases c1 : decide (1 ≤ l) <;> cases c2 : decide (l ≤ d) <;> rcases b1 with rfl | rfl
        all_goals
          rw [c1, c2] at hr
          replace hr := Lib.hid hr
          go_wp2_with fail
          go_ret
          exact ⟨by rw [← hr.out]; rfl, B.out⟩
      · rw [if_neg b1] at hr
        by_cases b4 : s = 0 ∨ s = 3
        · cases c1 : decide (l = 0)
          all_goals
            have c2 : (l == 0) = decide (l = 0) := by simp [BEq.beq]
            rw [c1] at c2 hr
            rcases b4 with rfl | rfl
          all_goals
            replace c1 := Lib.hid c1
            replace b1 := Lib.hid b1
            replace hr := Lib.hid (show _ = r from hr)
            go_wp2_with fail
            go_ret
            exact ⟨by rw [← hr.out]; rfl, B.out⟩
        · have b2 : (s == 1) = false := by simpa using fun h => b1 (.inl h)
          have b3 : (s == 2) = false := by simpa using fun h => b1 (.inr h)
          have b5 : (s == 0) = false := by simpa using fun h => b4 (.inl h)
          have b6 : (s == 3) = false := by simpa using fun h => b4 (.inr h)
          rw [show decide (s = 0) = false by simpa using b5, show decide (s = 3) = false by simpa using b6, Bool.false_or, Bool.false_and] at hr
          replace b1 := Lib.hid b1
          replace b4 := Lib.hid b4
          replace hr := Lib.hid hr
          go_wp2_with fail
          go_ret
          exact ⟨by rw [← hr.out]; rfl, B.out⟩
theorem p_right_to {s l d : Int} {w : World} {b : Bool} (h : okS s l d = b) : Calls Try.prog 37 #[sv s l, .int .i64 d] w fun e w' => e = .returned (.bool b) ∧ Below w.heap.size w w' := by
  have := p_right s l d w
  rwa [h] at this
set_option maxHeartbeats 8000000 in
theorem p_role_no (s l d : Int) (a : Bool) (w : World) (h : okS s l d = false) : Calls Try.prog 62 #[sv s l, .int .i64 d, .bool a] w (RetSt w (0, 0) 1) := by
  show Calls Try.prog 62 #[sv s l, .int .i64 d, .bool a] w fun e w' => e = .returned (.tuple #[sv 0 0, .int .i64 1]) ∧ Below w.heap.size w w'
  obtain ⟨n1, hn1⟩ : ∃ n1, w.heap.size + 1 = n1 := ⟨_, rfl⟩
  obtain ⟨w0, hw0⟩ : ∃ W, W = (w.alloc (so s l)).alloc (so 0 0) := ⟨_, rfl⟩
  have B0 := Lib.hid (show Below w.heap.size w w0 by rw [hw0]; exact two_boxes _ _ _ _ _)
  have X0 := Lib.hid (show Bx w0 w.heap.size PT #[.int .i64 s, .int .i64 l] by rw [hw0]; exact (Bx.new _ _ _ rfl).alloc _)
  have Y0 := Lib.hid (show Bx w0 n1 PT #[.int .i64 0, .int .i64 0] by rw [hw0]; exact Bx.new _ _ _ (by rw [← hn1]; simp))
  go_enter Try.func62, Try.ntmps62
  go_wp2_with fail
  rw [← hw0]
  clear hw0
  go_at_call 37
  (with_reducible refine (p_right_to h).mono ?_)
  rintro e w1 ⟨rfl, hb1⟩
  have B := Lib.hid (bt B0.out hb1)
  have X := Lib.hid (X0.out.below hb1)
  have Y := Lib.hid (Y0.out.below hb1)
  have hnn := Lib.hid (show w.heap.size ≤ n1 by omega)
  clear hn1 Y0
  obtain ⟨y0, y1⟩ := Bx.c2 Y.out
  have hyl := Y.out.lt
  have g0 := Y.out.f 0
  have g1 := Y.out.f 1
  clear hb1 B0 X0
  obtain ⟨x0, x1⟩ := Bx.c2 X.out
  go_wp2_with fail
  have z1 := ((Y.out.set 0 (.int .i64 0)).set 1 (.int .i64 0)).c (i := 0) rfl
  have z2 := ((Y.out.set 0 (.int .i64 0)).set 1 (.int .i64 0)).c (i := 1) rfl
  refine bodyPost_ret (v := .tuple #[sv 0 0, .int .i64 1]) (by simp [results, Try.results62, go_sem, z1, z2]) rfl ⟨rfl, below2 B.out hnn.out _ _⟩
set_option maxHeartbeats 8000000 in
theorem p_role_ok (s l d : Int) (a : Bool) (w : World) (h : okS s l d = true) : Calls Try.prog 62 #[sv s l, .int .i64 d, .bool a] w (RetSt w (roleS s l d a) 0) := by
  show Calls Try.prog 62 #[sv s l, .int .i64 d, .bool a] w fun e w' => e = .returned (.tuple #[sv (roleS s l d a).1 (roleS s l d a).2, .int .i64 0]) ∧ Below w.heap.size w w'
  obtain ⟨r, hr⟩ : ∃ r, r = roleS s l d a := ⟨_, rfl⟩
  rw [← hr]
  replace hr := Lib.hid hr
  obtain ⟨n1, hn1⟩ : ∃ n1, w.heap.size + 1 = n1 := ⟨_, rfl⟩
  obtain ⟨w0, hw0⟩ : ∃ W, W = (w.alloc (so s l)).alloc (so 0 0) := ⟨_, rfl⟩
  have B0 := Lib.hid (show Below w.heap.size w w0 by rw [hw0]; exact two_boxes _ _ _ _ _)
  have X0 := Lib.hid (show Bx w0 w.heap.size PT #[.int .i64 s, .int .i64 l] by rw [hw0]; exact (Bx.new _ _ _ rfl).alloc _)
  have Y0 := Lib.hid (show Bx w0 n1 PT #[.int .i64 0, .int .i64 0] by rw [hw0]; exact Bx.new _ _ _ (by rw [← hn1]; simp))
  go_enter Try.func62, Try.ntmps62
  go_wp2_with fail
  rw [← hw0]
  clear hw0
  go_at_call 37
  (with_reducible refine (p_right_to h).mono ?_)
  rintro e w1 ⟨rfl, hb1⟩
  have B := Lib.hid (bt B0.out hb1)
  have X := Lib.hid (X0.out.below hb1)
  have Y := Lib.hid (Y0.out.below hb1)
  have hnn := Lib.hid (show w.heap.size ≤ n1 by omega)
  clear hn1 Y0
  obtain ⟨y0, y1⟩ := Bx.c2 Y.out
  have hyl := Y.out.lt
  have g0 := Y.out.f 0
  have g1 := Y.out.f 1
  clear hb1 B0 X0
  obtain ⟨x0, x1⟩ := Bx.c2 X.out
  clear h
  cases a with
  | false =>
    obtain rfl : r = (0, 0) := by rw [hr.out]; simp [roleS]
    go_wp2_with fail
    have z1 := ((Y.out.set 0 (.int .i64 0)).set 1 (.int .i64 0)).c (i := 0) rfl
    have z2 := ((Y.out.set 0 (.int .i64 0)).set 1 (.int .i64 0)).c (i := 1) rfl
    refine bodyPost_ret (v := .tuple #[sv 0 0, .int .i64 0]) (by simp [results, Try.results62, go_sem, z1, z2]) rfl ⟨rfl, below2 B.out hnn.out _ _⟩
  | true =>
    by_cases h0 : s = 0
    · obtain rfl : r = (1, d) := by rw [hr.out]; simp [roleS, h0]
      have h' : (s == 0) = true := by simpa using h0
      replace h0 := Lib.hid h0
      go_wp2_with fail
      have z1 := ((Y.out.set 0 (.int .i64 1)).set 1 (.int .i64 d)).c (i := 0) rfl
      have z2 := ((Y.out.set 0 (.int .i64 1)).set 1 (.int .i64 d)).c (i := 1) rfl
      refine bodyPost_ret (v := .tuple #[sv 1 d, .int .i64 0]) (by simp [results, Try.results62, go_sem, z1, z2]) rfl ⟨rfl, below2 B.out hnn.out _ _⟩
    · obtain rfl : r = (s, l) := by rw [hr.out]; simp [roleS, h0]
      have h' : (s == 0) = false := by simpa using h0
      replace h0 := Lib.hid h0
      go_wp2_with fail
      have z1 := ((Y.out.set 0 (.int .i64 s)).set 1 (.int .i64 l)).c (i := 0) rfl
      have z2 := ((Y.out.set 0 (.int .i64 s)).set 1 (.int .i64 l)).c (i := 1) rfl
      refine bodyPost_ret (v := .tuple #[sv s l, .int .i64 0]) (by simp [results, Try.results62, go_sem, z1, z2]) rfl ⟨rfl, below2 B.out hnn.out _ _⟩
set_option maxHeartbeats 8000000 in
theorem p_tick_no (s l d : Int) (w : World) (h : okS s l d = false) : Calls Try.prog 51 #[sv s l, .int .i64 d] w (RetSt w (0, 0) 1) := by
  show Calls Try.prog 51 #[sv s l, .int .i64 d] w fun e w' => e = .returned (.tuple #[sv 0 0, .int .i64 1]) ∧ Below w.heap.size w w'
  obtain ⟨n1, hn1⟩ : ∃ n1, w.heap.size + 1 = n1 := ⟨_, rfl⟩
  obtain ⟨w0, hw0⟩ : ∃ W, W = (w.alloc (so s l)).alloc (so 0 0) := ⟨_, rfl⟩
  have B0 := Lib.hid (show Below w.heap.size w w0 by rw [hw0]; exact two_boxes _ _ _ _ _)
  have X0 := Lib.hid (show Bx w0 w.heap.size PT #[.int .i64 s, .int .i64 l] by rw [hw0]; exact (Bx.new _ _ _ rfl).alloc _)
  have Y0 := Lib.hid (show Bx w0 n1 PT #[.int .i64 0, .int .i64 0] by rw [hw0]; exact Bx.new _ _ _ (by rw [← hn1]; simp))
  go_enter Try.func51, Try.ntmps51
  go_wp2_with fail
  rw [← hw0]
  clear hw0
  go_at_call 37
  (with_reducible refine (p_right_to h).mono ?_)
  rintro e w1 ⟨rfl, hb1⟩
  have B := Lib.hid (bt B0.out hb1)
  have X := Lib.hid (X0.out.below hb1)
  have Y := Lib.hid (Y0.out.below hb1)
  have hnn := Lib.hid (show w.heap.size ≤ n1 by omega)
  clear hn1 Y0
  obtain ⟨y0, y1⟩ := Bx.c2 Y.out
  have hyl := Y.out.lt
  have g0 := Y.out.f 0
  have g1 := Y.out.f 1
  clear hb1 B0 X0
  obtain ⟨x0, x1⟩ := Bx.c2 X.out
  go_wp2_with fail
  have z1 := ((Y.out.set 0 (.int .i64 0)).set 1 (.int .i64 0)).c (i := 0) rfl
  have z2 := ((Y.out.set 0 (.int .i64 0)).set 1 (.int .i64 0)).c (i := 1) rfl
  refine bodyPost_ret (v := .tuple #[sv 0 0, .int .i64 1]) (by simp [results, Try.results51, go_sem, z1, z2]) rfl ⟨rfl, below2 B.out hnn.out _ _⟩
set_option maxHeartbeats 8000000 in
theorem p_tick_ok (s l d : Int) (w : World) (h : okS s l d = true) : Calls Try.prog 51 #[sv s l, .int .i64 d] w (RetSt w (tickS s l d) 0) := by
  show Calls Try.prog 51 #[sv s l, .int .i64 d] w fun e w' => e = .returned (.tuple #[sv (tickS s l d).1 (tickS s l d).2, .int .i64 0]) ∧ Below w.heap.size w w'
  obtain ⟨r, hr⟩ : ∃ r, r = tickS s l d := ⟨_, rfl⟩
  rw [← hr]
  replace hr := Lib.hid hr
  obtain ⟨n1, hn1⟩ : ∃ n1, w.heap.size + 1 = n1 := ⟨_, rfl⟩
  obtain ⟨w0, hw0⟩ : ∃ W, W = (w.alloc (so s l)).alloc (so 0 0) := ⟨_, rfl⟩
  have B0 := Lib.hid (show Below w.heap.size w w0 by rw [hw0]; exact two_boxes _ _ _ _ _)
  have X0 := Lib.hid (show Bx w0 w.heap.size PT #[.int .i64 s, .int .i64 l] by rw [hw0]; exact (Bx.new _ _ _ rfl).alloc _)
  have Y0 := Lib.hid (show Bx w0 n1 PT #[.int .i64 0, .int .i64 0] by rw [hw0]; exact Bx.new _ _ _ (by rw [← hn1]; simp))
  go_enter Try.func51, Try.ntmps51
  go_wp2_with fail
  rw [← hw0]
  clear hw0
  go_at_call 37
  (with_reducible refine (p_right_to h).mono ?_)
  rintro e w1 ⟨rfl, hb1⟩
  have B := Lib.hid (bt B0.out hb1)
  have X := Lib.hid (X0.out.below hb1)
  have Y := Lib.hid (Y0.out.below hb1)
  have hnn := Lib.hid (show w.heap.size ≤ n1 by omega)
  clear hn1 Y0
  obtain ⟨y0, y1⟩ := Bx.c2 Y.out
  have hyl := Y.out.lt
  have g0 := Y.out.f 0
  have g1 := Y.out.f 1
  clear hb1 B0 X0
  obtain ⟨x0, x1⟩ := Bx.c2 X.out
  obtain ⟨hd, h⟩ := ok_iff.1 h
  rcases h with ⟨rfl, rfl⟩ | ⟨rfl, h1, h2⟩ | ⟨rfl, h1, h2⟩ | ⟨rfl, rfl⟩
  · obtain rfl : r = (0, 0) := by rw [hr.out]; simp [tickS]
    clear hd
    go_wp2_with fail
    have z1 := ((Y.out.set 0 (.int .i64 0)).set 1 (.int .i64 0)).c (i := 0) rfl
    have z2 := ((Y.out.set 0 (.int .i64 0)).set 1 (.int .i64 0)).c (i := 1) rfl
    refine bodyPost_ret (v := .tuple #[sv 0 0, .int .i64 0]) (by simp [results, Try.results51, go_sem, z1, z2]) rfl ⟨rfl, below2 B.out hnn.out _ _⟩
  · obtain ⟨hd1, hd2⟩ := hd
    obtain ⟨hb1, hb2⟩ : 0 ≤ l ∧ l ≤ 30 := by omega
    by_cases hl : 1 < l
    · obtain rfl : r = (1, l - 1) := by rw [hr.out]; simp [tickS, hl]
      go_wp2_with fail
      have z1 := ((Y.out.set 0 (.int .i64 1)).set 1 (.int .i64 (l - 1))).c (i := 0) rfl
      have z2 := ((Y.out.set 0 (.int .i64 1)).set 1 (.int .i64 (l - 1))).c (i := 1) rfl
      refine bodyPost_ret (v := .tuple #[sv 1 (l - 1), .int .i64 0]) (by simp [results, Try.results51, go_sem, z1, z2]) rfl ⟨rfl, below2 B.out hnn.out _ _⟩
    · obtain rfl : r = (2, d) := by rw [hr.out]; simp [tickS, hl]
      go_wp2_with fail
      have z1 := ((Y.out.set 0 (.int .i64 2)).set 1 (.int .i64 d)).c (i := 0) rfl
      have z2 := ((Y.out.set 0 (.int .i64 2)).set 1 (.int .i64 d)).c (i := 1) rfl
      refine bodyPost_ret (v := .tuple #[sv 2 d, .int .i64 0]) (by simp [results, Try.results51, go_sem, z1, z2]) rfl ⟨rfl, below2 B.out hnn.out _ _⟩
  · obtain ⟨hd1, hd2⟩ := hd
    obtain ⟨hb1, hb2⟩ : 0 ≤ l ∧ l ≤ 30 := by omega
    by_cases hl : 1 < l
    · obtain rfl : r = (2, l - 1) := by rw [hr.out]; simp [tickS, hl]
      go_wp2_with fail
      have z1 := ((Y.out.set 0 (.int .i64 2)).set 1 (.int .i64 (l - 1))).c (i := 0) rfl
      have z2 := ((Y.out.set 0 (.int .i64 2)).set 1 (.int .i64 (l - 1))).c (i := 1) rfl
      refine bodyPost_ret (v := .tuple #[sv 2 (l - 1), .int .i64 0]) (by simp [results, Try.results51, go_sem, z1, z2]) rfl ⟨rfl, below2 B.out hnn.out _ _⟩
    · obtain rfl : r = (3, 0) := by rw [hr.out]; simp [tickS, hl]
      go_wp2_with fail
      have z1 := ((Y.out.set 0 (.int .i64 3)).set 1 (.int .i64 0)).c (i := 0) rfl
      have z2 := ((Y.out.set 0 (.int .i64 3)).set 1 (.int .i64 0)).c (i := 1) rfl
      refine bodyPost_ret (v := .tuple #[sv 3 0, .int .i64 0]) (by simp [results, Try.results51, go_sem, z1, z2]) rfl ⟨rfl, below2 B.out hnn.out _ _⟩
  · obtain rfl : r = (3, 0) := by rw [hr.out]; simp [tickS]
    clear hd
    go_wp2_with fail
    have z1 := ((Y.out.set 0 (.int .i64 3)).set 1 (.int .i64 0)).c (i := 0) rfl
    have z2 := ((Y.out.set 0 (.int .i64 3)).set 1 (.int .i64 0)).c (i := 1) rfl
    refine bodyPost_ret (v := .tuple #[sv 3 0, .int .i64 0]) (by simp [results, Try.results51, go_sem, z1, z2]) rfl ⟨rfl, below2 B.out hnn.out _ _⟩
set_option maxHeartbeats 8000000 in
theorem p_may (s l : Int) (w : World) : Calls Try.prog 54 #[sv s l] w fun e w' => e = .returned (.tuple #[.bool (decide (s = 2) || decide (s = 3)), .bool (decide (s = 3))]) ∧ Below w.heap.size w w' := by
  have B := Lib.hid ((Below.refl w.heap.size w).alloc (Nat.le_refl _) (so s l))
  go_enter Try.func54, Try.ntmps54
  by_cases h3 : s = 3
  · subst h3
    go_wp2_with fail
    refine bodyPost_ret (v := .tuple #[.bool true, .bool true]) (by simp [results, Try.results54, go_sem]) rfl ⟨rfl, B.out⟩
  · by_cases h2 : s = 2
    · subst h2
      go_wp2_with fail
      refine bodyPost_ret (v := .tuple #[.bool true, .bool false]) (by simp [results, Try.results54, go_sem]) rfl ⟨rfl, B.out⟩
    · have e3 : (s == 3) = false := by simpa using h3
      have e2 : (s == 2) = false := by simpa using h2
      rw [show decide (s = 2) = false by simpa using e2, show decide (s = 3) = false by simpa using e3]
      replace h3 := Lib.hid h3
      replace h2 := Lib.hid h2
      go_wp2_with fail
      refine bodyPost_ret (v := .tuple #[.bool false, .bool false]) (by simp [results, Try.results54, go_sem]) rfl ⟨rfl, B.out⟩
end Go.Proofs.Ytidoaccidmmalaa.PortP
