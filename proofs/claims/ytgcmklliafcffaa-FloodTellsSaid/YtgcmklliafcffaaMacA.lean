/-
  Contracts of mac's small functions: byteAt, Right, isReserved, isOfGroup, Class, checkLength.
-/
import Derived.Test.YtgcmklliafcffaaRows
import Derived.WalkKit
import Derived.WalkSpells
import Derived.WalkLawsBesides
import Derived.BigQuiet
import Derived.Lib.Hide
namespace Go.Proofs.Ytgcmklliafcffaa.MacP
open Go.RowKit
set_option linter.unusedVariables false
set_option maxRecDepth 100000

/-- The byte of an address at place i, the highest first. -/
def bAt (a i : Int) : Int := a / 2 ^ (8 * (5 - i)).toNat % 256
theorem bAt_bd (a i : Int) : 0 ≤ bAt a i ∧ bAt a i < 256 := by unfold bAt; omega

set_option maxHeartbeats 400000 in
theorem byteAt_any (a i : Int) (w : World) (i0 : 0 ≤ i) (i1 : i ≤ 5) :
    Calls Try.prog 145 #[.int .i64 a, .int .i64 i] w fun e w' => e = .returned (.int .u8 (bAt a i)) ∧ w = w' := by
  go_enter Try.func145, Try.ntmps145
  go_wp2
  go_ret
  exact ⟨rfl, rfl⟩

set_option maxHeartbeats 400000 in
theorem right_yes (a : Int) (w : World) (h0 : 0 ≤ a) (h1 : a < 281474976710656) :
    Calls Try.prog 140 #[.int .i64 a] w fun e w' => e = .returned (.bool true) ∧ w = w' := by
  have h2 : decide (a ≤ 281474976710655) = true := by simp; omega
  go_enter Try.func140, Try.ntmps140
  go_wp2
  go_ret
  exact ⟨rfl, rfl⟩

set_option maxHeartbeats 400000 in
theorem right_no (a : Int) (w : World) (h : a < 0 ∨ 281474976710656 ≤ a) :
    Calls Try.prog 140 #[.int .i64 a] w fun e w' => e = .returned (.bool false) ∧ w = w' := by
  by_cases h0 : 0 ≤ a
  · have h2 : decide (a ≤ 281474976710655) = false := by simp; omega
    clear h
    go_enter Try.func140, Try.ntmps140
    go_wp2
    go_ret
    exact ⟨rfl, rfl⟩
  · clear h
    have h2 : decide (0 ≤ a) = false := by simp; omega
    go_enter Try.func140, Try.ntmps140
    go_wp2
    go_ret
    exact ⟨rfl, rfl⟩

def resB (a : Int) : Bool := decide (1652522221568 ≤ a) && decide (a ≤ 1652522221583)

set_option maxHeartbeats 400000 in
theorem reserved_any (a : Int) (w : World) :
    Calls Try.prog 141 #[.int .i64 a] w fun e w' => e = .returned (.bool (resB a)) ∧ w = w' := by
  by_cases h0 : decide (1652522221568 ≤ a) = true
  · by_cases h1 : decide (a ≤ 1652522221583) = true
    · go_enter Try.func141, Try.ntmps141
      go_wp2
      go_ret
      exact ⟨by rw [resB, h0, h1]; rfl, rfl⟩
    · replace h1 : decide (a ≤ 1652522221583) = false := by simpa using h1
      go_enter Try.func141, Try.ntmps141
      go_wp2
      go_ret
      exact ⟨by rw [resB, h0, h1]; rfl, rfl⟩
  · replace h0 : decide (1652522221568 ≤ a) = false := by simpa using h0
    go_enter Try.func141, Try.ntmps141
    go_wp2
    go_ret
    exact ⟨by rw [resB, h0]; rfl, rfl⟩

theorem ret_bool {a b : Bool} (h : a = b) : Ending.returned (.bool a) = .returned (.bool b) := by rw [h]
theorem and_one (x : Int) (h0 : 0 ≤ x) (h1 : x < 256) : bits .and .u8 x 1 = x % 2 := by
  rw [u8_and x 1 h0 h1 (by omega) (by omega)]
  show ((x.toNat &&& 1 : Nat) : Int) = _
  rw [Nat.and_one_is_mod]; omega
def grpB (a : Int) : Bool := bAt a 0 % 2 == 1

set_option maxHeartbeats 400000 in
theorem group_any (a : Int) (w : World) :
    Calls Try.prog 142 #[.int .i64 a] w fun e w' => e = .returned (.bool (grpB a)) ∧ w = w' := by
  have hb := bAt_bd a 0
  go_enter Try.func142, Try.ntmps142
  go_wp2_with (go_at_call 145; refine (byteAt_any _ _ _ (by omega) (by omega)).mono ?_; rintro e w' ⟨rfl, rfl⟩)
  go_ret
  refine ⟨?_, rfl⟩
  show Ending.returned (.bool _) = _
  rw [and_one _ hb.1 hb.2, grpB]


def classI (a : Int) : Int := if resB a then 2 else if grpB a then 1 else 0

set_option maxHeartbeats 400000 in
theorem class_yes (a : Int) (w : World) (h0 : 0 ≤ a) (h1 : a < 281474976710656) :
    Calls Try.prog 126 #[.int .i64 a] w fun e w' => e = .returned (.tuple #[.int .i64 (classI a), .int .i64 0]) ∧ w = w' := by
  unfold classI
  by_cases hr : resB a = true
  · rw [if_pos hr]
    go_enter Try.func126, Try.ntmps126
    go_wp2_with (first | (go_at_call 140; refine (right_yes _ _ h0 h1).mono ?_; rintro e w' ⟨rfl, rfl⟩) | (go_at_call 141; refine (reserved_any _ _).mono ?_; rintro e w' ⟨rfl, rfl⟩))
    go_ret2
    exact ⟨rfl, rfl⟩
  · replace hr : resB a = false := by simpa using hr
    rw [hr]
    by_cases hg : grpB a = true
    · rw [hg]
      go_enter Try.func126, Try.ntmps126
      go_wp2_with (first | (go_at_call 140; refine (right_yes _ _ h0 h1).mono ?_; rintro e w' ⟨rfl, rfl⟩) | (go_at_call 141; refine (reserved_any _ _).mono ?_; rintro e w' ⟨rfl, rfl⟩) | (go_at_call 142; refine (group_any _ _).mono ?_; rintro e w' ⟨rfl, rfl⟩))
      go_ret2
      exact ⟨rfl, rfl⟩
    · replace hg : grpB a = false := by simpa using hg
      rw [hg]
      go_enter Try.func126, Try.ntmps126
      go_wp2_with (first | (go_at_call 140; refine (right_yes _ _ h0 h1).mono ?_; rintro e w' ⟨rfl, rfl⟩) | (go_at_call 141; refine (reserved_any _ _).mono ?_; rintro e w' ⟨rfl, rfl⟩) | (go_at_call 142; refine (group_any _ _).mono ?_; rintro e w' ⟨rfl, rfl⟩))
      go_ret2
      exact ⟨rfl, rfl⟩

set_option maxHeartbeats 400000 in
theorem class_no (a : Int) (w : World) (h : a < 0 ∨ 281474976710656 ≤ a) :
    Calls Try.prog 126 #[.int .i64 a] w fun e w' => e = .returned (.tuple #[.int .i64 0, .int .i64 1]) ∧ w = w' := by
  have H := Lib.hid h
  clear h
  go_enter Try.func126, Try.ntmps126
  go_wp2_with (go_at_call 140; refine (right_no _ _ H.out).mono ?_; rintro e w' ⟨rfl, rfl⟩)
  go_ret2
  exact ⟨rfl, rfl⟩

end Go.Proofs.Ytgcmklliafcffaa.MacP
