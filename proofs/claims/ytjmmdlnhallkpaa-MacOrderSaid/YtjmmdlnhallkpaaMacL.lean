/-
  The contract of the statements' alive.
-/
import Derived.Test.YtjmmdlnhallkpaaMacQ
namespace Go.Proofs.Ytjmmdlnhallkpaa.MacP
open Go.RowKit
set_option linter.unusedVariables false

def aliveText : ByteArray := ⟨#[48, 49, 58, 56, 48, 58, 99, 50, 58, 48, 48, 58, 48, 48, 58, 48, 102]⟩
theorem pr_alive : pr aliveText = (1652522221583, 0) := by decide +kernel
theorem class_alive : classI 1652522221583 = 2 := by decide

theorem parse_alive (w : World) : Calls Try.prog 20 #[.string ⟨#[48, 49, 58, 56, 48, 58, 99, 50, 58, 48, 48, 58, 48, 48, 58, 48, 102]⟩] w fun e w' => e = .returned (.tuple #[.int .i64 1652522221583, .int .i64 0]) ∧ Below w.heap.size w w' :=
  (parse_any aliveText w (by decide)).mono fun e w' ⟨h1, h2⟩ => ⟨by rw [h1, pr_alive], h2⟩
theorem cls_alive (w : World) : Calls Try.prog 10 #[.int .i64 1652522221583] w fun e w' => e = .returned (.tuple #[.int .i64 2, .int .i64 0]) ∧ w = w' :=
  (class_yes 1652522221583 w (by decide) (by decide)).mono fun e w' ⟨h1, h2⟩ => ⟨by rw [h1, class_alive], h2⟩

set_option maxHeartbeats 400000 in
theorem alive_any (w : World) :
    Calls Try.prog 15 #[] w fun e w' => e = .returned (.bool true) ∧ Below w.heap.size w w' := by
  go_enter Try.func15, Try.ntmps15
  go_wp2_with (first | (go_at_call 20; refine (parse_alive _).mono ?_; rintro e w1 ⟨rfl, hb1⟩) | (go_at_call 10; refine (cls_alive _).mono ?_; rintro e w' ⟨rfl, rfl⟩))
  go_ret
  exact ⟨rfl, hb1⟩
end Go.Proofs.Ytjmmdlnhallkpaa.MacP
