/-
  Contracts of wheel's small functions.
-/
import Derived.Test.YtnghilcjecjljaaOwn
import Derived.Test.YtnghilcjecjljaaRegRel
import Derived.Deep.QuietTactic
import Derived.Lib.QuietBelow
import Derived.Laws.StructEq
import Derived.IntWalk
import Derived.LoopTactic
namespace Go.Proofs.Ytnghilcjecjljaa.WheelP
open Go.RowKit Go.Sort Go.Proofs.Ytnghilcjecjljaa.SliceP
set_option linter.unusedVariables false
set_option maxRecDepth 100000

/-- A timer. -/
structure T where
  id : Int
  due : Int
  deriving Inhabited, DecidableEq
def T.cells (x : T) : List Value := [.int .i64 x.id, .int .i64 x.due]
abbrev tv (i a : Int) : Value := .agg #[.int .i64 i, .int .i64 a]
abbrev tObj (i a : Int) : Obj := .cells #[.int .i64 i, .int .i64 a] 75
def timeB (n : Int) : Bool := decide (0 ≤ n) && decide (n ≤ 1099511627776)
def okB (i a : Int) : Bool := decide (0 ≤ i) && timeB a
def T.ok (x : T) : Bool := okB x.id x.due

set_option maxHeartbeats 400000 in
theorem time_any (n : Int) (w : World) : Calls Try.prog 86 #[.int .i64 n] w fun e w' => e = .returned (.bool (timeB n)) ∧ w = w' := by
  by_cases h0 : decide (0 ≤ n) = true
  · by_cases h1 : decide (n ≤ 1099511627776) = true
    · go_enter Try.func86, Try.ntmps86
      go_wp2
      go_ret
      exact ⟨by rw [timeB, h0, h1]; rfl, rfl⟩
    · replace h1 : decide (n ≤ 1099511627776) = false := by simpa using h1
      go_enter Try.func86, Try.ntmps86
      go_wp2
      go_ret
      exact ⟨by rw [timeB, h0, h1]; rfl, rfl⟩
  · replace h0 : decide (0 ≤ n) = false := by simpa using h0
    go_enter Try.func86, Try.ntmps86
    go_wp2
    go_ret
    exact ⟨by rw [timeB, h0]; rfl, rfl⟩
theorem time_is (n : Int) (b : Bool) (h : timeB n = b) (w : World) : Calls Try.prog 86 #[.int .i64 n] w fun e w' => e = .returned (.bool b) ∧ w = w' := by
  subst h; exact time_any n w
set_option maxHeartbeats 400000 in
theorem isRight_any (i a : Int) (w : World) : Calls Try.prog 74 #[tv i a] w fun e w' => e = .returned (.bool (okB i a)) ∧ Below w.heap.size w w' := by
  by_cases h0 : decide (0 ≤ i) = true
  · cases h1 : timeB a
    all_goals
      go_enter Try.func74, Try.ntmps74
      go_wp2_with (go_at_call 86; refine (time_is _ _ h1 _).mono ?_; rintro e w' ⟨rfl, rfl⟩)
      go_ret
      exact ⟨by rw [okB, h0, h1]; rfl, (Below.refl _ _).alloc (Nat.le_refl _) _⟩
  · replace h0 : decide (0 ≤ i) = false := by simpa using h0
    go_enter Try.func74, Try.ntmps74
    go_wp2
    go_ret
    exact ⟨by rw [okB, h0]; rfl, (Below.refl _ _).alloc (Nat.le_refl _) _⟩

set_option maxHeartbeats 400000 in
theorem nan_any (n : Int) (w : World) :
    Calls Try.prog 99 #[.int .i64 n] w fun e w' => e = .returned (.bool false) ∧ w = w' := by
  go_enter Try.func99, Try.ntmps99
  go_wp2
  go_ret
  exact ⟨rfl, rfl⟩
def cmpI (a b : Int) : Int := if a < b then -1 else if b < a then 1 else 0
set_option maxHeartbeats 400000 in
theorem compare_int (a b : Int) (w : World) :
    Calls Try.prog 90 #[.int .i64 a, .int .i64 b] w fun e w' => e = .returned (.int .i64 (cmpI a b)) ∧ w = w' := by
  unfold cmpI
  by_cases h : a < b
  · rw [if_pos h]
    go_enter Try.func90, Try.ntmps90
    go_wp2_with (go_at_call 99; refine (nan_any _ _).mono ?_; rintro e w' ⟨rfl, rfl⟩)
    go_ret
    exact ⟨rfl, rfl⟩
  · rw [if_neg h]
    by_cases h1 : b < a
    · rw [if_pos h1]
      go_enter Try.func90, Try.ntmps90
      go_wp2_with (go_at_call 99; refine (nan_any _ _).mono ?_; rintro e w' ⟨rfl, rfl⟩)
      go_ret
      exact ⟨rfl, rfl⟩
    · rw [if_neg h1]
      go_enter Try.func90, Try.ntmps90
      go_wp2_with (go_at_call 99; refine (nan_any _ _).mono ?_; rintro e w' ⟨rfl, rfl⟩)
      go_ret
      exact ⟨rfl, rfl⟩

/-- The digit of a time. -/
def dig (n : Int) (p : Nat) : Int := n / (64 : Int) ^ p % 64
theorem ret_dig {n m : Int} {p : Nat} (c : Int) (hc : (64 : Int) ^ p = c) (h : m = n / c % 64) : Ending.returned (.int .i64 m) = .returned (.int .i64 (dig n p)) := by
  rw [dig, hc, h]
end Go.Proofs.Ytnghilcjecjljaa.WheelP
