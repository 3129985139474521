/-
  Contracts of footwayref10.
-/
import Derived.Test.YtidoaccidmmalaaPortA
import Derived.IntWalk
namespace Go.Proofs.Ytidoaccidmmalaa.PortP
open Go.RowKit Go.Sort Go.Proofs.Ytidoaccidmmalaa.BoxP
set_option linter.unusedVariables false
set_option maxRecDepth 100000
set_option maxHeartbeats 8000000 in
theorem r_right (s l d : Int) (w : World) : Calls Try.prog 40 #[sv s l, .int .i64 d] w fun e w' => e = .returned (.bool (okS s l d)) ∧ Below w.heap.size w w' := by
  have B := Lib.hid ((Below.refl w.heap.size w).alloc (Nat.le_refl _) (so s l))
  obtain ⟨r, hr⟩ : ∃ r, okS s l d = r := ⟨_, rfl⟩
  rw [hr]
  unfold okS at hr
  go_enter Try.func40, Try.ntmps40
  by_cases a1 : d < 1
  · simp only [a1, decide_true, Bool.not_true, Bool.false_and] at hr
    replace hr := Lib.hid hr
    go_wp2_with fail
    go_ret
    exact ⟨by rw [← hr.out]; rfl, B.out⟩
  · by_cases a2 : 30 < d
    · simp only [a1, a2, decide_true, decide_false, Bool.not_true, Bool.not_false, Bool.false_and, Bool.true_and] at hr
      replace hr := Lib.hid hr
      go_wp2_with fail
      go_ret
      exact ⟨by rw [← hr.out]; rfl, B.out⟩
    · simp only [a1, a2, decide_false, Bool.not_false, Bool.true_and] at hr
      by_cases b1 : s = 1 ∨ s = 2
      · rw [if_pos b1] at hr
        cases c1 : decide (1 ≤ l) <;> cases c2 : decide (l ≤ d) <;> rcases b1 with rfl | rfl
        all_goals
          rw [c1, c2] at hr
          replace hr := Lib.hid hr
          go_wp2_with fail
          go_ret
          exact ⟨by rw [← hr.out]; rfl, B.out⟩
      · rw [if_neg b1] at hr
        have b2 : (s == 1) = false := by simpa using fun h => b1 (.inl h)
        have b3 : (s == 2) = false := by simpa using fun h => b1 (.inr h)
        replace b1 := Lib.hid b1
        by_cases b4 : s = 0
        · have b4' : (s == 0) = true := by simpa using b4
          rw [show decide (s = 0) = true by simpa using b4, Bool.true_or, Bool.true_and] at hr
          replace b4 := Lib.hid b4
          by_cases c : l = 0
          · have c' : (l == 0) = true := by simpa using c
            rw [show decide (l = 0) = true by simpa using c] at hr
            replace c := Lib.hid c
            replace hr := Lib.hid hr
            go_wp2_with fail
            go_ret
            exact ⟨by rw [← hr.out]; rfl, B.out⟩
          · have c' : (l == 0) = false := by simpa using c
            rw [show decide (l = 0) = false by simpa using c] at hr
            replace c := Lib.hid c
            replace hr := Lib.hid hr
            go_wp2_with fail
            go_ret
            exact ⟨by rw [← hr.out]; rfl, B.out⟩
        · have b4' : (s == 0) = false := by simpa using b4
          rw [show decide (s = 0) = false by simpa using b4, Bool.false_or] at hr
          replace b4 := Lib.hid b4
          by_cases b5 : s = 3
          · have b5' : (s == 3) = true := by simpa using b5
            rw [show decide (s = 3) = true by simpa using b5, Bool.true_and] at hr
            replace b5 := Lib.hid b5
            by_cases c : l = 0
            · have c' : (l == 0) = true := by simpa using c
              rw [show decide (l = 0) = true by simpa using c] at hr
              replace c := Lib.hid c
              replace hr := Lib.hid hr
              go_wp2_with fail
              go_ret
              exact ⟨by rw [← hr.out]; rfl, B.out⟩
            · have c' : (l == 0) = false := by simpa using c
              rw [show decide (l = 0) = false by simpa using c] at hr
              replace c := Lib.hid c
              replace hr := Lib.hid hr
              go_wp2_with fail
              go_ret
              exact ⟨by rw [← hr.out]; rfl, B.out⟩
          · have b5' : (s == 3) = false := by simpa using b5
            rw [show decide (s = 3) = false by simpa using b5, Bool.false_and] at hr
            replace b5 := Lib.hid b5
            replace hr := Lib.hid hr
            go_wp2_with fail
            go_ret
            exact ⟨by rw [← hr.out]; rfl, B.out⟩
def IsSt (w : World) (x : Int × Int) (e : Ending) (w' : World) : Prop := e = .returned (sv x.1 x.2) ∧ Below w.heap.size w w'
theorem two_boxes (w : World) (s l s' l' : Int) : Below w.heap.size w ((w.alloc (so s l)).alloc (so s' l')) := ((Below.refl _ _).alloc (Nat.le_refl _) _).alloc (by simp) _
set_option maxHeartbeats 8000000 in
theorem r_role (s l d : Int) (a : Bool) (w : World) : Calls Try.prog 72 #[sv s l, .int .i64 d, .bool a] w (IsSt w (roleS s l d a)) := by
  go_enter Try.func72, Try.ntmps72
  cases a with
  | false =>
    go_wp2_with fail
    refine bodyPost_ret (v := sv 0 0) (by simp [results, Try.results72, go_sem]) rfl ⟨rfl, two_boxes _ _ _ _ _⟩
  | true =>
    by_cases h : s = 0
    · have e : roleS s l d true = (1, d) := by unfold roleS; simp [h]
      have h' : (s == 0) = true := by simpa using h
      replace h := Lib.hid h
      rw [e]
      clear e
      go_wp2_with fail
      refine bodyPost_ret (v := sv 1 d) (by simp [results, Try.results72, go_sem]) rfl ⟨rfl, two_boxes _ _ _ _ _⟩
    · have e : roleS s l d true = (s, l) := by unfold roleS; simp [h]
      have h' : (s == 0) = false := by simpa using h
      replace h := Lib.hid h
      rw [e]
      clear e
      go_wp2_with fail
      refine bodyPost_ret (v := sv s l) (by simp [results, Try.results72, go_sem]) rfl ⟨rfl, two_boxes _ _ _ _ _⟩
set_option maxHeartbeats 8000000 in
theorem r_tick {s l d : Int} (h : okS s l d = true) (w : World) : Calls Try.prog 56 #[sv s l, .int .i64 d] w (IsSt w (tickS s l d)) := by
  obtain ⟨hd, h⟩ := ok_iff.1 h
  go_enter Try.func56, Try.ntmps56
  rcases h with ⟨rfl, rfl⟩ | ⟨rfl, h1, h2⟩ | ⟨rfl, h1, h2⟩ | ⟨rfl, rfl⟩
  · rw [show tickS 0 0 d = (0, 0) from by simp [tickS]]
    go_wp2_with fail
    refine bodyPost_ret (v := sv 0 0) (by simp [results, Try.results56, go_sem]) rfl ⟨rfl, two_boxes _ _ _ _ _⟩
  · by_cases hl : 1 < l
    · rw [show tickS 1 l d = (1, l - 1) from by simp [tickS, hl]]
      have hb : 0 ≤ l ∧ l ≤ 30 := by omega
      obtain ⟨hb1, hb2⟩ := hb
      go_wp2_with fail
      refine bodyPost_ret (v := sv 1 (l - 1)) (by simp [results, Try.results56, go_sem]) rfl ⟨rfl, two_boxes _ _ _ _ _⟩
    · rw [show tickS 1 l d = (2, d) from by simp [tickS, hl]]
      go_wp2_with fail
      refine bodyPost_ret (v := sv 2 d) (by simp [results, Try.results56, go_sem]) rfl ⟨rfl, two_boxes _ _ _ _ _⟩
  · by_cases hl : 1 < l
    · rw [show tickS 2 l d = (2, l - 1) from by simp [tickS, hl]]
      have hb : 0 ≤ l ∧ l ≤ 30 := by omega
      obtain ⟨hb1, hb2⟩ := hb
      go_wp2_with fail
      refine bodyPost_ret (v := sv 2 (l - 1)) (by simp [results, Try.results56, go_sem]) rfl ⟨rfl, two_boxes _ _ _ _ _⟩
    · rw [show tickS 2 l d = (3, 0) from by simp [tickS, hl]]
      go_wp2_with fail
      refine bodyPost_ret (v := sv 3 0) (by simp [results, Try.results56, go_sem]) rfl ⟨rfl, two_boxes _ _ _ _ _⟩
  · rw [show tickS 3 0 d = (3, 0) from by simp [tickS]]
    go_wp2_with fail
    refine bodyPost_ret (v := sv 3 0) (by simp [results, Try.results56, go_sem]) rfl ⟨rfl, two_boxes _ _ _ _ _⟩
/-- A tick ahead of forwarding takes one off. -/
theorem left_tick {s l d : Int} (h : okS s l d = true) (h0 : s ≠ 0) (h3 : s ≠ 3) : leftS (tickS s l d).1 (tickS s l d).2 d = leftS s l d - 1 ∧ (tickS s l d).1 ≠ 0 ∧ 1 ≤ leftS s l d ∧ leftS s l d ≤ 60 := by
  obtain ⟨hd, h⟩ := ok_iff.1 h
  unfold tickS leftS
  rcases h with ⟨rfl, rfl⟩ | ⟨rfl, h1, h2⟩ | ⟨rfl, h1, h2⟩ | ⟨rfl, rfl⟩
  · exact absurd rfl h0
  · by_cases hl : 1 < l
    · simp [hl]; omega
    · simp [hl]; omega
  · by_cases hl : 1 < l
    · simp [hl]; omega
    · simp [hl]; omega
  · exact absurd rfl h3
theorem left_role {s l d : Int} (h : okS s l d = true) : leftS (roleS s l d true).1 (roleS s l d true).2 d = leftS s l d ∧ (roleS s l d true).1 ≠ 0 := by
  unfold roleS
  by_cases h0 : s = 0
  · obtain ⟨hd, h⟩ := ok_iff.1 h
    subst h0
    simp [leftS]; omega
  · simp [h0]
end Go.Proofs.Ytidoaccidmmalaa.PortP
