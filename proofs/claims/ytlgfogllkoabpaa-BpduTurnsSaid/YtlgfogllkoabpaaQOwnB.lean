/-
  Contracts of bpdu.Right, bpdu.sum over TryQ.
-/
import Derived.Test.YtlgfogllkoabpaaQOwnA
import Derived.Test.YtlgfogllkoabpaaQBpduR
namespace Go.Proofs.Ytlgfogllkoabpaa.QMacP
open Go.RowKit Go.Sort
set_option linter.unusedVariables false
set_option linter.unusedSimpArgs false
set_option maxRecDepth 100000

theorem numL_2 (n : Int) : numL n 2 = [n / 256 % 256, n % 256] := by simp [numL]
theorem numL_4 (n : Int) : numL n 4 = [n / 16777216 % 256, n / 65536 % 256, n / 256 % 256, n % 256] := by
  simp [numL]
  refine ⟨?_, ?_⟩
  · omega
  · omega
theorem b_num1 (n : Int) (w : World) : Calls TryQ.prog 17 #[.int .i64 n, .int .i64 1] w fun e w' => e = .returned (.string (strOfNums (numL n 1))) ∧ Below w.heap.size w w' := by rw [numL_1]; exact b_bytes1 n w
theorem b_num2 (n : Int) (w : World) : Calls TryQ.prog 17 #[.int .i64 n, .int .i64 2] w fun e w' => e = .returned (.string (strOfNums (numL n 2))) ∧ Below w.heap.size w w' := by rw [numL_2]; exact b_bytes2 n w
theorem b_num4 (n : Int) (w : World) : Calls TryQ.prog 17 #[.int .i64 n, .int .i64 4] w fun e w' => e = .returned (.string (strOfNums (numL n 4))) ∧ Below w.heap.size w w' := by rw [numL_4]; exact b_bytes4 n w

/-- The whole sum, and below 256. -/
def allTo (f : Nat → Int) : Nat → Int
  | 0 => 0
  | k + 1 => allTo f k + f k
theorem allTo_mod (f : Nat → Int) : ∀ k, allTo f k % 256 = sumTo f k
  | 0 => rfl
  | k + 1 => by
    have := allTo_mod f k
    simp only [allTo, sumTo]
    omega
theorem psum_all (b : ByteArray) : ∀ k, k ≤ b.size → SimP.psum b k = allTo (gb b) k
  | 0, _ => rfl
  | k + 1, h => by
    have hk : k < b.size := by omega
    have hx : b[k]? = some b[k] := by simp [hk]
    rw [SimP.psum_succ hx, psum_all b k (by omega)]
    simp only [allTo]
    rw [get_gb b k hk]
theorem b_sum (b : ByteArray) (hb : b.size ≤ 12) (w : World) : Calls TryQ.prog 18 #[.string b] w fun e w' => e = .returned (.int .i64 (allTo (gb b) b.size)) ∧ Below w.heap.size w w' := by
  refine (SimP.q_sum b hb w).mono ?_
  rintro e w' ⟨rfl, rfl⟩
  refine ⟨by rw [psum_all b b.size (Nat.le_refl _)], ?_⟩
  have e2 : SimP.eff2 53 60 w = (w.alloc (.cells #[] 53)).alloc (.cells #[] 60) := rfl
  rw [e2]
  exact ((Below.refl _ _).alloc (Nat.le_refl _) _).alloc (by simp) _
theorem allTo_bd (b : ByteArray) : ∀ k, 0 ≤ allTo (gb b) k ∧ allTo (gb b) k ≤ 255 * k
  | 0 => by simp [allTo]
  | k + 1 => by
    have := allTo_bd b k
    have := gb_bd b k
    simp only [allTo]
    omega

def okB' (r c b p a : Int) : Bool := (decide (0 ≤ r) && decide (r ≤ 65535)) && (decide (0 ≤ c) && decide (c ≤ 2147483647)) && (decide (0 ≤ b) && decide (b ≤ 65535)) && (decide (0 ≤ p) && decide (p ≤ 7)) && (decide (0 ≤ a) && decide (a ≤ 255))
theorem ok_same (r c b p a : Int) : okC r c b p a = okB' r c b p a := by
  unfold okC okB'
  rw [Bool.eq_iff_iff]
  simp only [decide_eq_true_eq, Bool.and_eq_true]
  omega
theorem b_within_is (n m : Int) (v : Bool) (h : (decide (0 ≤ n) && decide (n ≤ m)) = v) (w : World) : Calls TryQ.prog 27 #[.int .i64 n, .int .i64 m] w fun e w' => e = .returned (.bool v) ∧ w = w' := by
  subst h; exact b_within n m w
set_option maxHeartbeats 4000000 in
theorem b_right_any (r c b p a : Int) (w : World) :
    Calls TryQ.prog 12 #[cv r c b p a] w fun e w' => e = .returned (.bool (okC r c b p a)) ∧ Below w.heap.size w w' := by
  rw [ok_same]
  unfold okB'
  obtain ⟨v1, e1⟩ : ∃ v, (decide (0 ≤ r) && decide (r ≤ 65535)) = v := ⟨_, rfl⟩
  obtain ⟨v2, e2⟩ : ∃ v, (decide (0 ≤ c) && decide (c ≤ 2147483647)) = v := ⟨_, rfl⟩
  obtain ⟨v3, e3⟩ : ∃ v, (decide (0 ≤ b) && decide (b ≤ 65535)) = v := ⟨_, rfl⟩
  obtain ⟨v4, e4⟩ : ∃ v, (decide (0 ≤ p) && decide (p ≤ 7)) = v := ⟨_, rfl⟩
  obtain ⟨v5, e5⟩ : ∃ v, (decide (0 ≤ a) && decide (a ≤ 255)) = v := ⟨_, rfl⟩
  rw [e1, e2, e3, e4, e5]
  have n1 := fun W => b_within_is r 65535 v1 e1 W
  have n2 := fun W => b_within_is c 2147483647 v2 e2 W
  have n3 := fun W => b_within_is b 65535 v3 e3 W
  have n4 := fun W => b_within_is p 7 v4 e4 W
  have n5 := fun W => b_within_is a 255 v5 e5 W
  clear e1 e2 e3 e4 e5
  have B := Lib.hid ((Below.refl w.heap.size w).alloc (Nat.le_refl _) (.cells #[.int .i64 r, .int .i64 c, .int .i64 b, .int .i64 p, .int .i64 a] 25))
  cases v1 with
  | false =>
    simp only [Bool.false_and, Bool.and_false, Bool.true_and]
    go_enter TryQ.func12, Try.ntmps12
    go_wp2_with (go_at_call 27; (first | with_reducible refine (n1 _).mono ?_ | with_reducible refine (n2 _).mono ?_ | with_reducible refine (n3 _).mono ?_ | with_reducible refine (n4 _).mono ?_ | with_reducible refine (n5 _).mono ?_); rintro e w' ⟨rfl, rfl⟩)
    go_ret
    exact ⟨rfl, B.out⟩
  | true =>
    cases v2 with
    | false =>
      simp only [Bool.false_and, Bool.and_false, Bool.true_and]
      go_enter TryQ.func12, Try.ntmps12
      go_wp2_with (go_at_call 27; (first | with_reducible refine (n1 _).mono ?_ | with_reducible refine (n2 _).mono ?_ | with_reducible refine (n3 _).mono ?_ | with_reducible refine (n4 _).mono ?_ | with_reducible refine (n5 _).mono ?_); rintro e w' ⟨rfl, rfl⟩)
      go_ret
      exact ⟨rfl, B.out⟩
    | true =>
      cases v3 with
      | false =>
        simp only [Bool.false_and, Bool.and_false, Bool.true_and]
        go_enter TryQ.func12, Try.ntmps12
        go_wp2_with (go_at_call 27; (first | with_reducible refine (n1 _).mono ?_ | with_reducible refine (n2 _).mono ?_ | with_reducible refine (n3 _).mono ?_ | with_reducible refine (n4 _).mono ?_ | with_reducible refine (n5 _).mono ?_); rintro e w' ⟨rfl, rfl⟩)
        go_ret
        exact ⟨rfl, B.out⟩
      | true =>
        cases v4 with
        | false =>
          simp only [Bool.false_and, Bool.and_false, Bool.true_and]
          go_enter TryQ.func12, Try.ntmps12
          go_wp2_with (go_at_call 27; (first | with_reducible refine (n1 _).mono ?_ | with_reducible refine (n2 _).mono ?_ | with_reducible refine (n3 _).mono ?_ | with_reducible refine (n4 _).mono ?_ | with_reducible refine (n5 _).mono ?_); rintro e w' ⟨rfl, rfl⟩)
          go_ret
          exact ⟨rfl, B.out⟩
        | true =>
          cases v5 with
          | false =>
            simp only [Bool.false_and, Bool.and_false, Bool.true_and]
            go_enter TryQ.func12, Try.ntmps12
            go_wp2_with (go_at_call 27; (first | with_reducible refine (n1 _).mono ?_ | with_reducible refine (n2 _).mono ?_ | with_reducible refine (n3 _).mono ?_ | with_reducible refine (n4 _).mono ?_ | with_reducible refine (n5 _).mono ?_); rintro e w' ⟨rfl, rfl⟩)
            go_ret
            exact ⟨rfl, B.out⟩
          | true =>
            go_enter TryQ.func12, Try.ntmps12
            go_wp2_with (go_at_call 27; (first | with_reducible refine (n1 _).mono ?_ | with_reducible refine (n2 _).mono ?_ | with_reducible refine (n3 _).mono ?_ | with_reducible refine (n4 _).mono ?_ | with_reducible refine (n5 _).mono ?_); rintro e w' ⟨rfl, rfl⟩)
            go_ret
            exact ⟨rfl, B.out⟩
end Go.Proofs.Ytlgfogllkoabpaa.QMacP
