/-
  Contracts of hash's Sum and Bucket, of footwayref07's, and of what they call.
-/
import Derived.Test.YtnghilcjecjljaaMacR
import Derived.Test.YtnghilcjecjljaaInts
import Derived.WalkSpells
import Derived.Laws.BitsAllLaws
namespace Go.Proofs.Ytnghilcjecjljaa.MacP
open Go.RowKit Go.Sort Go.Proofs.Ytnghilcjecjljaa.SliceP
set_option linter.unusedVariables false
set_option maxRecDepth 100000

/-- One byte more. -/
def stepH (h b : Nat) : Nat := (h ^^^ b) * 16777619 % 4294967296
def sumK (a : Int) : Nat → Nat
  | 0 => 2166136261
  | k + 1 => stepH (sumK a k) (bAt a k).toNat
def sumI (a : Int) : Int := sumK a 6
theorem sumK_lt (a : Int) (k : Nat) : sumK a k < 4294967296 := by
  cases k with
  | zero => show 2166136261 < 4294967296; decide
  | succ k => show (_ * _) % 4294967296 < _; omega
theorem sumI_bd (a : Int) : 0 ≤ sumI a ∧ sumI a < 4294967296 := by
  have := sumK_lt a 6
  unfold sumI; omega
/-- The value of the sum's number behind k bytes. -/
theorem mul_u32 (h b : Nat) : IntKind.u32.wrap (((h ^^^ b : Nat) : Int) * 16777619) = ((stepH h b : Nat) : Int) := by
  unfold stepH
  have : IntKind.u32.wrap (((h ^^^ b : Nat) : Int) * 16777619) = (((h ^^^ b : Nat) : Int) * 16777619) % 4294967296 := rfl
  rw [this]; omega

set_option maxHeartbeats 2000000 in
theorem sumOf_any (a : Int) (w : World) : Calls Try.prog 97 #[.string (strOfNums (byteNums a))] w fun e w' => e = .returned (.int .i64 (sumI a)) ∧ w = w' := by
  have hsz : (strOfNums (byteNums a)).size = 6 := by rw [strOfNums_size]; rfl
  go_enter Try.func97, Try.ntmps97
  go_wp2_with fail
  go_loop [3, 7] (fun s i => ∃ k : Nat, k ≤ 6 ∧ i = .int .i64 k ∧ s = .int .u32 (sumK a k)) (fun _ i => 6 - (intOf i).toNat)
  case atStart => exact ⟨0, by omega, rfl, rfl⟩
  case round =>
    obtain ⟨k, hk, rfl, rfl⟩ := hrel
    by_cases hlt : k < 6
    · have hix := fun w => byte_at a k hlt w
      obtain ⟨q0, q1⟩ := bAt_bd a k
      obtain ⟨b, hb⟩ : ∃ b : Nat, bAt a k = (b : Int) := ⟨(bAt a k).toNat, by omega⟩
      have hb2 : (bAt a k).toNat = b := by omega
      have hS : Hid (sumK a (k + 1) = stepH (sumK a k) b) := Lib.hid (by rw [← hb2]; rfl)
      have hsl := sumK_lt a k
      rw [hb] at hix
      have hb256 : b < 256 := by omega
      clear hb hb2 q0 q1
      generalize sumK a k = s at *
      have hx := u32_xor_nat s b hsl (by omega)
      have hm := mul_u32 s b
      have hcv : IntKind.u32.wrap (b : Int) = (b : Int) := IntWalk.u32_in _ ⟨by omega, by omega⟩
      go_wp2_with fail
      go_round
      case rel => exact ⟨k + 1, by omega, by go_num, by rw [hS.out]⟩
      case measure => simp [intOf]; omega
    · obtain rfl : k = 6 := by omega
      have hb := sumK_lt a 6
      have hcv : IntKind.i64.wrap ((sumK a 6 : Nat) : Int) = (sumK a 6 : Nat) := IntWalk.i64_in _ (by omega)
      go_wp2_with fail
      go_ret
      exact ⟨rfl, rfl⟩

def adB (a : Int) : Bool := decide (0 ≤ a ∧ a < 281474976710656)
set_option maxHeartbeats 1000000 in
theorem sum_yes (a : Int) (w : World) (h0 : 0 ≤ a) (h1 : a < 281474976710656) : Calls Try.prog 84 #[.int .i64 a] w fun e w' => e = .returned (.tuple #[.int .i64 (sumI a), .int .i64 0]) ∧ Below w.heap.size w w' := by
  go_enter Try.func84, Try.ntmps84
  go_wp2_with fail
  go_at_call 96
  (with_reducible refine (bytes_yes a _ h0 h1).mono ?_)
  rintro e w1 ⟨rfl, hb⟩
  go_wp2_with fail
  go_at_call 97
  (with_reducible refine (sumOf_any a _).mono ?_)
  rintro e w2 ⟨rfl, rfl⟩
  go_wp2_with fail
  go_ret2
  exact ⟨rfl, hb⟩
set_option maxHeartbeats 1000000 in
theorem sum_no (a : Int) (w : World) (h : a < 0 ∨ 281474976710656 ≤ a) : Calls Try.prog 84 #[.int .i64 a] w fun e w' => e = .returned (.tuple #[.int .i64 0, .int .i64 1]) ∧ Below w.heap.size w w' := by
  go_enter Try.func84, Try.ntmps84
  go_wp2_with fail
  go_at_call 96
  (with_reducible refine (bytes_no a _ h).mono ?_)
  rintro e w1 ⟨rfl, hb⟩
  go_wp2_with fail
  go_ret2
  exact ⟨rfl, hb⟩

def numB (n : Int) : Bool := n == 1 || n == 2 || n == 4 || n == 8 || n == 16
theorem numB_cases {n : Int} (h : numB n = true) : n = 1 ∨ n = 2 ∨ n = 4 ∨ n = 8 ∨ n = 16 := by
  unfold numB at h
  simp only [Bool.or_eq_true, beq_iff_eq] at h
  omega
theorem and_no (n : Int) (h0 : 0 < n) (h16 : n ≤ 16) (h : numB n = false) : (bits .and .i64 n (n - 1) == 0) = false := by
  unfold numB at h
  simp only [Bool.or_eq_false_iff, beq_eq_false_iff_ne] at h
  have : n = 3 ∨ n = 5 ∨ n = 6 ∨ n = 7 ∨ n = 9 ∨ n = 10 ∨ n = 11 ∨ n = 12 ∨ n = 13 ∨ n = 14 ∨ n = 15 := by omega
  rcases this with rfl | rfl | rfl | rfl | rfl | rfl | rfl | rfl | rfl | rfl | rfl <;> decide
set_option maxHeartbeats 2000000 in
theorem count_any (n : Int) (w : World) (hn : n ≤ 9223372036854775807) : Calls Try.prog 83 #[.int .i64 n] w fun e w' => e = .returned (.bool (numB n)) ∧ w = w' := by
  by_cases h0 : 0 < n
  · have w1 : IntKind.i64.wrap (n - 1) = n - 1 := IntWalk.i64_in _ (by omega)
    by_cases h16 : n ≤ 16
    · cases hb : numB n
      · have ha := and_no n h0 h16 hb
        clear hb
        go_enter Try.func83, Try.ntmps83
        go_wp2_with fail
        go_ret
        exact ⟨rfl, rfl⟩
      · have ha : (bits .and .i64 n (n - 1) == 0) = true := by
          rcases numB_cases hb with rfl | rfl | rfl | rfl | rfl <;> decide
        clear hb
        go_enter Try.func83, Try.ntmps83
        go_wp2_with fail
        go_ret
        exact ⟨rfl, rfl⟩
    · have hb : numB n = false := by unfold numB; simp only [Bool.or_eq_false_iff, beq_eq_false_iff_ne]; omega
      have h16' : ¬ (n ≤ 16) := h16
      rw [hb]
      cases ha : (bits .and .i64 n (n - 1) == 0)
      all_goals
        go_enter Try.func83, Try.ntmps83
        go_wp2_with fail
        go_ret
        exact ⟨rfl, rfl⟩
  · have hb : numB n = false := by unfold numB; simp only [Bool.or_eq_false_iff, beq_eq_false_iff_ne]; omega
    rw [hb]
    go_enter Try.func83, Try.ntmps83
    go_wp2_with fail
    go_ret
    exact ⟨rfl, rfl⟩
def bucketI (a n : Int) : Int := sumI a % n
set_option maxHeartbeats 1000000 in
theorem bucket_size (a n : Int) (w : World) (hn : n ≤ 9223372036854775807) (h : numB n = false) : Calls Try.prog 70 #[.int .i64 a, .int .i64 n] w fun e w' => e = .returned (.tuple #[.int .i64 0, .int .i64 2]) ∧ w = w' := by
  have hc := count_any n w hn
  rw [h] at hc
  clear h
  go_enter Try.func70, Try.ntmps70
  go_wp2_with fail
  go_at_call 83
  (with_reducible refine hc.mono ?_)
  rintro e w1 ⟨rfl, rfl⟩
  go_wp2_with fail
  go_ret2
  exact ⟨rfl, rfl⟩
set_option maxHeartbeats 1000000 in
theorem bucket_yes (a n : Int) (w : World) (h0 : 0 ≤ a) (h1 : a < 281474976710656) (h : numB n = true) : Calls Try.prog 70 #[.int .i64 a, .int .i64 n] w fun e w' => e = .returned (.tuple #[.int .i64 (bucketI a n), .int .i64 0]) ∧ Below w.heap.size w w' := by
  have hn := numB_cases h
  have hc := count_any n w (by omega)
  rw [h] at hc
  have hn0 : (n == 0) = false := by rw [beq_eq_false_iff_ne]; omega
  have hn1 : ¬ (n = 0) := by omega
  obtain ⟨q0, q1⟩ := sumI_bd a
  have hr : (sumI a).tmod n = bucketI a n := Int.tmod_eq_emod_of_nonneg q0
  have hbd : 0 ≤ bucketI a n ∧ bucketI a n < 16 := ⟨Int.emod_nonneg _ (by omega), by have := Int.emod_lt_of_pos (sumI a) (show 0 < n by omega); show sumI a % n < 16; omega⟩
  have hw : IntKind.i64.wrap (bucketI a n) = bucketI a n := IntWalk.i64_in _ (by omega)
  have hm1 : (n == -1) = false := by rw [beq_eq_false_iff_ne]; omega
  replace hn := Lib.hid hn
  clear h hbd
  generalize bucketI a n = bk at *
  go_enter Try.func70, Try.ntmps70
  go_wp2_with fail
  go_at_call 83
  (with_reducible refine hc.mono ?_)
  rintro e w1 ⟨rfl, rfl⟩
  clear hc
  go_wp2_with fail
  go_at_call 84
  (with_reducible refine (sum_yes a _ h0 h1).mono ?_)
  rintro e w1 ⟨rfl, hb⟩
  generalize sumI a = s at *
  clear q0 q1 h0 h1
  go_wp2_with fail
  go_ret2
  exact ⟨rfl, hb⟩

theorem turned_next (a b : Nat) (i : Nat) : ((a ^^^ b) % 2 ^ (i + 1)) = ((a ^^^ b) % 2 ^ i) + if a / 2 ^ i % 2 ≠ b / 2 ^ i % 2 then 2 ^ i else 0 := by
  have e1 : (a ^^^ b) % 2 ^ (i + 1) = (a ^^^ b) % 2 ^ i + 2 ^ i * ((a ^^^ b) / 2 ^ i % 2) := by
    rw [Nat.pow_succ, Nat.mod_mul]
  have e2 : (a ^^^ b) / 2 ^ i = (a / 2 ^ i) ^^^ (b / 2 ^ i) := by
    rw [← Nat.shiftRight_eq_div_pow, ← Nat.shiftRight_eq_div_pow, ← Nat.shiftRight_eq_div_pow, Nat.shiftRight_xor_distrib]
  rw [e1, e2]
  congr 1
  have ha : a / 2 ^ i % 2 < 2 := Nat.mod_lt _ (by decide)
  have hb : b / 2 ^ i % 2 < 2 := Nat.mod_lt _ (by decide)
  generalize a / 2 ^ i = x at *
  generalize b / 2 ^ i = y at *
  by_cases h : x % 2 = y % 2
  · rw [if_neg (by simpa using h)]
    have : (x ^^^ y) % 2 = 0 := by have := @Nat.xor_mod_two_eq_one x y; omega
    rw [this, Nat.mul_zero]
  · rw [if_pos h]
    have : (x ^^^ y) % 2 = 1 := by have := @Nat.xor_mod_two_eq_one x y; omega
    rw [this, Nat.mul_one]
set_option maxHeartbeats 4000000 in
theorem turned_any (a b : Nat) (w : World) (ha : a < 4294967296) (hb : b < 4294967296) : Calls Try.prog 95 #[.int .i64 a, .int .i64 b] w fun e w' => e = .returned (.int .i64 ((a ^^^ b : Nat) : Int)) ∧ w = w' := by
  have hlt : a ^^^ b < 2 ^ 32 := Nat.xor_lt_two_pow (by omega) (by omega)
  have hend : Hid ((a ^^^ b) % 2 ^ 32 = a ^^^ b) := Lib.hid (Nat.mod_eq_of_lt hlt)
  clear hlt
  go_enter Try.func95, Try.ntmps95
  go_wp2_with fail
  go_loop [0, 1, 5, 6, 7] (fun x y o p i => ∃ k : Nat, k ≤ 32 ∧ i = .int .i64 k ∧ x = .int .i64 ((a / 2 ^ k : Nat) : Int) ∧ y = .int .i64 ((b / 2 ^ k : Nat) : Int) ∧ o = .int .i64 (((a ^^^ b) % 2 ^ k : Nat) : Int) ∧ p = .int .i64 ((2 ^ k : Nat) : Int)) (fun _ _ _ _ i => 32 - (intOf i).toNat)
  case atStart => exact ⟨0, by omega, rfl, by simp, by simp, by simp [Nat.mod_one], rfl⟩
  case round =>
    obtain ⟨k, hk, rfl, rfl, rfl, rfl, rfl⟩ := hrel
    by_cases hlk : k < 32
    · have hT := Lib.hid (turned_next a b k)
      have hA : Hid (a / 2 ^ k / 2 = a / 2 ^ (k + 1)) := Lib.hid (by rw [Nat.div_div_eq_div_mul, ← Nat.pow_succ])
      have hB : Hid (b / 2 ^ k / 2 = b / 2 ^ (k + 1)) := Lib.hid (by rw [Nat.div_div_eq_div_mul, ← Nat.pow_succ])
      have hP : Hid (2 ^ (k + 1) = 2 * 2 ^ k) := Lib.hid (by rw [Nat.pow_succ, Nat.mul_comm])
      have hpl : 2 ^ k ≤ 2147483648 := Nat.le_trans (Nat.pow_le_pow_right (by decide) (show k ≤ 31 by omega)) (by decide)
      have hol : (a ^^^ b) % 2 ^ k < 2 ^ k := Nat.mod_lt _ (Nat.pow_pos (by decide))
      have hxl : a / 2 ^ k ≤ a := Nat.div_le_self _ _
      have hyl : b / 2 ^ k ≤ b := Nat.div_le_self _ _
      generalize a / 2 ^ k = x at *
      generalize b / 2 ^ k = y at *
      generalize (a ^^^ b) % 2 ^ k = o at *
      generalize 2 ^ k = p at *
      have m1 : ((x : Nat) : Int).tmod 2 = ((x % 2 : Nat) : Int) := rfl
      have m2 : ((y : Nat) : Int).tmod 2 = ((y % 2 : Nat) : Int) := rfl
      have m3 : ((x : Nat) : Int).tdiv 2 = ((x / 2 : Nat) : Int) := rfl
      have m4 : ((y : Nat) : Int).tdiv 2 = ((y / 2 : Nat) : Int) := rfl
      have w1 : IntKind.i64.wrap (((x % 2 : Nat) : Int)) = ((x % 2 : Nat) : Int) := IntWalk.i64_in _ (by omega)
      have w2 : IntKind.i64.wrap (((y % 2 : Nat) : Int)) = ((y % 2 : Nat) : Int) := IntWalk.i64_in _ (by omega)
      have w3 : IntKind.i64.wrap (((x / 2 : Nat) : Int)) = ((x / 2 : Nat) : Int) := IntWalk.i64_in _ (by omega)
      have w4 : IntKind.i64.wrap (((y / 2 : Nat) : Int)) = ((y / 2 : Nat) : Int) := IntWalk.i64_in _ (by omega)
      have w5 : IntKind.i64.wrap ((o : Int) + (p : Int)) = ((o + p : Nat) : Int) := IntWalk.i64_in _ (by omega)
      have w6 : IntKind.i64.wrap (2 * (p : Int)) = ((2 * p : Nat) : Int) := IntWalk.i64_in _ (by omega)
      by_cases hxy : x % 2 = y % 2
      · have hd : ((((x % 2 : Nat) : Int)) != ((y % 2 : Nat) : Int)) = false := by rw [hxy]; simp
        have hT2 : Hid _ := Lib.hid (hT.out.trans (by rw [if_neg (by simpa using hxy), Nat.add_zero]))
        replace hT := hT2
        clear hxy w5
        generalize x % 2 = x2 at *
        generalize y % 2 = y2 at *
        generalize x / 2 = x3 at *
        generalize y / 2 = y3 at *
        go_wp2_with fail
        go_round
        case rel => exact ⟨k + 1, by omega, by go_num, by rw [hA.out], by rw [hB.out], by rw [hT.out]; try (push_cast; rfl), by rw [hP.out]; push_cast; rfl⟩
        case measure => simp [intOf]; omega
      · have hd : ((((x % 2 : Nat) : Int)) != ((y % 2 : Nat) : Int)) = true := by simp; omega
        have hT2 : Hid _ := Lib.hid (hT.out.trans (by rw [if_pos hxy]))
        replace hT := hT2
        clear hxy
        generalize x % 2 = x2 at *
        generalize y % 2 = y2 at *
        generalize x / 2 = x3 at *
        generalize y / 2 = y3 at *
        go_wp2_with fail
        go_round
        case rel => exact ⟨k + 1, by omega, by go_num, by rw [hA.out], by rw [hB.out], by rw [hT.out]; try (push_cast; rfl), by rw [hP.out]; push_cast; rfl⟩
        case measure => simp [intOf]; omega
    · obtain rfl : k = 32 := by omega
      rw [hend.out]
      go_wp2_with fail
      go_ret
      exact ⟨rfl, rfl⟩
end Go.Proofs.Ytnghilcjecjljaa.MacP
