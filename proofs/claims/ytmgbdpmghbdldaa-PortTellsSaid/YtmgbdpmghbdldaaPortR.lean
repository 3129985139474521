/-
  Contracts of footwayref10.
-/
import Derived.Test.YtmgbdpmghbdldaaPortA
import Derived.IntWalk
namespace Go.Proofs.Ytmgbdpmghbdldaa.PortP
open Go.RowKit Go.Sort Go.Proofs.Ytmgbdpmghbdldaa.BoxP
set_option linter.unusedVariables false
set_option maxRecDepth 100000
set_option maxHeartbeats 8000000 in
theorem r_right (s l d : Int) (w : World) : Calls Try.prog 11 #[sv s l, .int .i64 d] w fun e w' => e = .returned (.bool (okS s l d)) ∧ Below w.heap.size w w' := by
  have B := Lib.hid ((Below.refl w.heap.size w).alloc (Nat.le_refl _) (so s l))
  obtain ⟨r, hr⟩ : ∃ r, okS s l d = r := ⟨_, rfl⟩
  rw [hr]
  unfold okS at hr
  go_enter Try.func11, Try.ntmps11
  by_cases a1 : d < 1
  · simp only [a1, decide_true, Bool.not_true, Bool.false_and] at hr
    replace hr := Lib.hid hr
    go_wp2_with fail
    go_ret
    exact ⟨by rw [← hr.out]; rfl, B.out⟩
  · by_cases a2 : 30 < d
    · simp only [a1, a2, decide_true, decide_false, Bool.not_true, Bool.not_false, Bool.false_and, Bool.true_and] at hr
      replace hr := Lib.hid hr
      go_wp2_with fail
      go_ret
      exact ⟨by rw [← hr.out]; rfl, B.out⟩
    · simp only [a1, a2, decide_false, Bool.not_false, Bool.true_and] at hr
      by_cases b1 : s = 1 ∨ s = 2
      · rw [if_pos b1] at hr
        cases c1 : decide (1 ≤ l) <;> cases c2 : decide (l ≤ d) <;> rcases b1 with rfl | rfl
        all_goals
          rw [c1, c2] at hr
          replace hr := Lib.hid hr
          go_wp2_with fail
          go_ret
          exact ⟨by rw [← hr.out]; rfl, B.out⟩
      · rw [if_neg b1] at hr
        have b2 : (s == 1) = false := by simpa using fun h => b1 (.inl h)
        have b3 : (s == 2) = false := by simpa using fun h => b1 (.inr h)
        replace b1 := Lib.hid b1
        by_cases b4 : s = 0
        · have b4' : (s == 0) = true := by simpa using b4
          rw [show decide (s = 0) = true by simpa using b4, Bool.true_or, Bool.true_and] at hr
          replace b4 := Lib.hid b4
          by_cases c : l = 0
          · have c' : (l == 0) = true := by simpa using c
            rw [show decide (l = 0) = true by simpa using c] at hr
            replace c := Lib.hid c
            replace hr := Lib.hid hr
            go_wp2_with fail
            go_ret
            exact ⟨by rw [← hr.out]; rfl, B.out⟩
          · have c' : (l == 0) = false := by simpa using c
            rw [show decide (l = 0) = false by simpa using c] at hr
            replace c := Lib.hid c
            replace hr := Lib.hid hr
            go_wp2_with fail
            go_ret
            exact ⟨by rw [← hr.out]; rfl, B.out⟩
        · have b4' : (s == 0) = false := by simpa using b4
          rw [show decide (s = 0) = false by simpa using b4, Bool.false_or] at hr
          replace b4 := Lib.hid b4
          by_cases b5 : s = 3
          · have b5' : (s == 3) = true := by simpa using b5
            rw [show decide (s = 3) = true by simpa using b5, Bool.true_and] at hr
            replace b5 := Lib.hid b5
            by_cases c : l = 0
            · have c' : (l == 0) = true := by simpa using c
              rw [show decide (l = 0) = true by simpa using c] at hr
              replace c := Lib.hid c
              replace hr := Lib.hid hr
              go_wp2_with fail
              go_ret
              exact ⟨by rw [← hr.out]; rfl, B.out⟩
            · have c' : (l == 0) = false := by simpa using c
              rw [show decide (l = 0) = false by simpa using c] at hr
              replace c := Lib.hid c
              replace hr := Lib.hid hr
              go_wp2_with fail
              go_ret
              exact ⟨by rw [← hr.out]; rfl, B.out⟩
          · have b5' : (s == 3) = false := by simpa using b5
            rw [show decide (s = 3) = false by simpa using b5, Bool.false_and] at hr
            replace b5 := Lib.hid b5
            replace hr := Lib.hid hr
            go_wp2_with fail
            go_ret
            exact ⟨by rw [← hr.out]; rfl, B.out⟩
def IsSt (w : World) (x : Int × Int) (e : Ending) (w' : World) : Prop := e = .returned (sv x.1 x.2) ∧ Below w.heap.size w w'
theorem two_boxes (w : World) (s l s' l' : Int) : Below w.heap.size w ((w.alloc (so s l)).alloc (so s' l')) := ((Below.refl _ _).alloc (Nat.le_refl _) _).alloc (by simp) _
set_option maxHeartbeats 8000000 in
theorem r_role (s l d : Int) (a : Bool) (w : World) : Calls Try.prog 13 #[sv s l, .int .i64 d, .bool a] w (IsSt w (roleS s l d a)) := by
  go_enter Try.func13, Try.ntmps13
  cases a with
  | false =>
    go_wp2_with fail
    refine bodyPost_ret (v := sv 0 0) (by simp [results, Try.results13, go_sem]) rfl ⟨rfl, two_boxes _ _ _ _ _⟩
  | true =>
    by_cases h : s = 0
    · have e : roleS s l d true = (1, d) := by unfold roleS; simp [h]
      have h' : (s == 0) = true := by simpa using h
      replace h := Lib.hid h
      rw [e]
      clear e
      go_wp2_with fail
      refine bodyPost_ret (v := sv 1 d) (by simp [results, Try.results13, go_sem]) rfl ⟨rfl, two_boxes _ _ _ _ _⟩
    · have e : roleS s l d true = (s, l) := by unfold roleS; simp [h]
      have h' : (s == 0) = false := by simpa using h
      replace h := Lib.hid h
      rw [e]
      clear e
      go_wp2_with fail
      refine bodyPost_ret (v := sv s l) (by simp [results, Try.results13, go_sem]) rfl ⟨rfl, two_boxes _ _ _ _ _⟩
set_option maxHeartbeats 8000000 in
theorem r_tick {s l d : Int} (h : okS s l d = true) (w : World) : Calls Try.prog 14 #[sv s l, .int .i64 d] w (IsSt w (tickS s l d)) := by
  obtain ⟨hd, h⟩ := ok_iff.1 h
  go_enter Try.func14, Try.ntmps14
  rcases h with ⟨rfl, rfl⟩ | ⟨rfl, h1, h2⟩ | ⟨rfl, h1, h2⟩ | ⟨rfl, rfl⟩
  · rw [show tickS 0 0 d = (0, 0) from by simp [tickS]]
    go_wp2_with fail
    refine bodyPost_ret (v := sv 0 0) (by simp [results, Try.results14, go_sem]) rfl ⟨rfl, two_boxes _ _ _ _ _⟩
  · by_cases hl : 1 < l
    · rw [show tickS 1 l d = (1, l - 1) from by simp [tickS, hl]]
      have hb : 0 ≤ l ∧ l ≤ 30 := by omega
      obtain ⟨hb1, hb2⟩ := hb
      go_wp2_with fail
      refine bodyPost_ret (v := sv 1 (l - 1)) (by simp [results, Try.results14, go_sem]) rfl ⟨rfl, two_boxes _ _ _ _ _⟩
    · rw [show tickS 1 l d = (2, d) from by simp [tickS, hl]]
      go_wp2_with fail
      refine bodyPost_ret (v := sv 2 d) (by simp [results, Try.results14, go_sem]) rfl ⟨rfl, two_boxes _ _ _ _ _⟩
  · by_cases hl : 1 < l
    · rw [show tickS 2 l d = (2, l - 1) from by simp [tickS, hl]]
      have hb : 0 ≤ l ∧ l ≤ 30 := by omega
      obtain ⟨hb1, hb2⟩ := hb
      go_wp2_with fail
      refine bodyPost_ret (v := sv 2 (l - 1)) (by simp [results, Try.results14, go_sem]) rfl ⟨rfl, two_boxes _ _ _ _ _⟩
    · rw [show tickS 2 l d = (3, 0) from by simp [tickS, hl]]
      go_wp2_with fail
      refine bodyPost_ret (v := sv 3 0) (by simp [results, Try.results14, go_sem]) rfl ⟨rfl, two_boxes _ _ _ _ _⟩
  · rw [show tickS 3 0 d = (3, 0) from by simp [tickS]]
    go_wp2_with fail
    refine bodyPost_ret (v := sv 3 0) (by simp [results, Try.results14, go_sem]) rfl ⟨rfl, two_boxes _ _ _ _ _⟩
/-- A tick ahead of forwarding takes one off. -/
theorem left_tick {s l d : Int} (h : okS s l d = true) (h0 : s ≠ 0) (h3 : s ≠ 3) : leftS (tickS s l d).1 (tickS s l d).2 d = leftS s l d - 1 ∧ (tickS s l d).1 ≠ 0 ∧ 1 ≤ leftS s l d ∧ leftS s l d ≤ 60 := by
  obtain ⟨hd, h⟩ := ok_iff.1 h
  unfold tickS leftS
  rcases h with ⟨rfl, rfl⟩ | ⟨rfl, h1, h2⟩ | ⟨rfl, h1, h2⟩ | ⟨rfl, rfl⟩
  · exact absurd rfl h0
  · by_cases hl : 1 < l
    · simp [hl]; omega
    · simp [hl]; omega
  · by_cases hl : 1 < l
    · simp [hl]; omega
    · simp [hl]; omega
  · exact absurd rfl h3
theorem left_role {s l d : Int} (h : okS s l d = true) : leftS (roleS s l d true).1 (roleS s l d true).2 d = leftS s l d ∧ (roleS s l d true).1 ≠ 0 := by
  unfold roleS
  by_cases h0 : s = 0
  · obtain ⟨hd, h⟩ := ok_iff.1 h
    subst h0
    simp [leftS]; omega
  · simp [h0]
set_option maxHeartbeats 8000000 in
theorem r_left {s l d : Int} (h : okS s l d = true) (w : World) : Calls Try.prog 15 #[sv s l, .int .i64 d] w fun e w' => e = .returned (.int .i64 (leftS s l d)) ∧ Below w.heap.size w w' := by
  obtain ⟨w0, hw0⟩ : ∃ W, W = w.alloc (so s l) := ⟨_, rfl⟩
  have B0 := Lib.hid (show Below w.heap.size w w0 by rw [hw0]; exact (Below.refl _ _).alloc (Nat.le_refl _) _)
  have X0 : Bx w0 w.heap.size PT #[.int .i64 s, .int .i64 l] := by rw [hw0]; exact Bx.new _ _ _ rfl
  obtain ⟨e1, e2⟩ := left_role h
  have hok := ok_role (a := true) h
  have hro := fun W => r_role s l d true W
  generalize roleS s l d true = x at *
  obtain ⟨x1, x2⟩ := x
  simp only at e1 e2 hok
  have hok' := Lib.hid hok
  replace e1 := Lib.hid e1
  replace e2 := Lib.hid e2
  replace hro := Lib.hid hro
  obtain ⟨y0, y1⟩ := Bx.c2 X0
  have hyl := X0.lt
  replace X0 := Lib.hid X0
  clear h hok
  obtain ⟨t, ht⟩ : ∃ t, leftS s l d = t := ⟨_, rfl⟩
  rw [ht] at e1 ⊢
  clear ht
  go_enter Try.func15, Try.ntmps15
  go_wp2_with fail
  rw [← hw0]
  clear hw0
  go_at_call 13
  (with_reducible refine (hro.out _).mono ?_)
  rintro e w1 ⟨rfl, hb1⟩
  have B1 := Lib.hid (bt B0.out hb1)
  have X1 := X0.out.below hb1
  clear hb1 y0 y1 hyl X0 B0
  obtain ⟨y0, y1⟩ := Bx.c2 X1
  have hyl := X1.lt
  have f0 := X1.f 0
  have f1 := X1.f 1
  replace X1 := Lib.hid X1
  go_wp2_with fail
  obtain ⟨w2, hw2⟩ : ∃ W, W = (w1.setCell ⟨w.heap.size, 0, none⟩ (.int .i64 x1)).setCell ⟨w.heap.size, 1, none⟩ (.int .i64 x2) := ⟨_, rfl⟩
  have X2 := Lib.hid (show Bx w2 w.heap.size PT #[.int .i64 x1, .int .i64 x2] by rw [hw2]; exact Bx.two X1.out)
  have B2 := Lib.hid (show Below w.heap.size w w2 by rw [hw2]; exact below2 B1.out (Nat.le_refl _) _ _)
  rw [← hw2]
  clear hw2 y0 y1 hyl f0 f1 X1 B1
  go_loopw [5] (fun n wr => ∃ (k : Nat) (s1 l1 : Int), n = .int .i64 k ∧ (k : Int) + leftS s1 l1 d = t ∧ t ≤ 60 ∧ okS s1 l1 d = true ∧ s1 ≠ 0 ∧ Bx wr w.heap.size PT #[.int .i64 s1, .int .i64 l1] ∧ Below w.heap.size w wr) (fun n _ => (t - intOf n).toNat)
  case atStart =>
    refine ⟨0, x1, x2, rfl, by have := e1.out; omega, ?_, hok'.out, e2.out, X2.out, B2.out⟩
    have h1 := e1.out
    by_cases h3 : x1 = 3
    · rw [← h1]; unfold leftS; simp [h3]
    · have := (left_tick hok'.out e2.out h3).2.2.2; omega
  case round =>
    obtain ⟨k, s1, l1, rfl, hk, ht, hok1, h10, X, B⟩ := hrel
    clear X2 B2 e1 e2 hok' hro
    replace B := Lib.hid B
    obtain ⟨y0, y1⟩ := Bx.c2 X
    have hyl := X.lt
    have f0 := X.f 0
    have f1 := X.f 1
    replace X := Lib.hid X
    replace h10 := Lib.hid h10
    by_cases h3 : s1 = 3
    · have hl0 : leftS s1 l1 d = 0 := by unfold leftS; simp [h3]
      have hk2 : (k : Int) = t := by omega
      have h3' : (s1 == 3) = true := by simpa using h3
      replace h3 := Lib.hid h3
      replace hk := Lib.hid hk
      replace hk2 := Lib.hid hk2
      replace hl0 := Lib.hid hl0
      replace hok1 := Lib.hid hok1
      go_wp2_with fail
      go_ret
      exact ⟨by rw [hk2.out]; rfl, B.out⟩
    · have h3' : (s1 == 3) = false := by simpa using h3
      obtain ⟨q1, q2, q3, q4⟩ := left_tick hok1 h10.out h3
      have hok2 := ok_tick hok1
      have hti := Lib.hid (fun W => r_tick hok1 W)
      generalize tickS s1 l1 d = x at *
      obtain ⟨x1, x2⟩ := x
      simp only at q1 q2 hok2
      have hkb : k ≤ 60 := by omega
      replace h3 := Lib.hid h3
      replace hk := Lib.hid hk
      replace q1 := Lib.hid q1
      replace q2 := Lib.hid q2
      replace q3 := Lib.hid q3
      replace hok1 := Lib.hid hok1
      replace hok2 := Lib.hid hok2
      go_wp2_with fail
      go_at_call 14
      (with_reducible refine (hti.out _).mono ?_)
      rintro e w3 ⟨rfl, hb3⟩
      have B3 := Lib.hid (bt B.out hb3)
      have X3 := X.out.below hb3
      clear hb3 y0 y1 hyl f0 f1 X B
      obtain ⟨y0, y1⟩ := Bx.c2 X3
      have hyl := X3.lt
      have f0 := X3.f 0
      have f1 := X3.f 1
      replace X3 := Lib.hid X3
      go_wp2_with fail
      go_roundw
      case rel => exact ⟨k + 1, x1, x2, by go_num, by have := q1.out; have := hk.out; omega, ht, hok2.out, q2.out, Bx.two X3.out, below2 B3.out (Nat.le_refl _) _ _⟩
      case measure =>
        have := q3.out
        have := hk.out
        simp [intOf]; omega
end Go.Proofs.Ytmgbdpmghbdldaa.PortP
