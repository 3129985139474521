/-
  Contract of mac.Bytes.
-/
import Derived.Test.YtnghilcjecjljaaMacA
import Derived.Laws.BytesArg
import Derived.RegionTactic
import Derived.ChangeAlike
import Derived.BigRegion
import Derived.StillTailTactics
namespace Go.Proofs.Ytnghilcjecjljaa.MacP
open Go.RowKit
set_option linter.unusedVariables false
set_option maxRecDepth 100000

theorem bt {w a b : World} (h1 : Below w.heap.size w a) (h2 : Below a.heap.size a b) : Below w.heap.size w b := h1.trans (h2.mono h1.size)

def byteNums (a : Int) : List Int := [bAt a 0, bAt a 1, bAt a 2, bAt a 3, bAt a 4, bAt a 5]

set_option maxRecDepth 100000 in
set_option maxHeartbeats 400000 in
theorem bytes_yes (a : Int) (w : World) (h0 : 0 ≤ a) (h1 : a < 281474976710656) :
    Calls Try.prog 96 #[.int .i64 a] w fun e w' => e = .returned (.tuple #[.string (strOfNums (byteNums a)), .int .i64 0]) ∧ Below w.heap.size w w' := by
  go_enter Try.func96, Try.ntmps96
  go_wp2_with (go_at_call 71; refine (right_yes _ _ h0 h1).mono ?_; rintro e w' ⟨rfl, rfl⟩)
  refine wp_loop_rounds 7 ?_
  iterate 6 (rw [rounds_succ]; go_wp2_with (go_at_call 85; refine (byteAt_any _ _ _ (by omega) (by omega)).mono ?_; rintro e w' ⟨rfl, rfl⟩))
  rw [rounds_succ]
  go_wp2
  rw [run_convert_bytes_arg _ 106 5 Try.underlying106 Try.underlying5 w.heap.size 0 6 6 (byteNums a) rfl (by
    intro i hi
    match i, hi with
    | 0, _ => go_simp; rfl
    | 1, _ => go_simp; rfl
    | 2, _ => go_simp; rfl
    | 3, _ => go_simp; rfl
    | 4, _ => go_simp; rfl
    | 5, _ => go_simp; rfl) 9 Try.underlying9]
  go_wp2
  go_ret2
  exact ⟨rfl, (Below.refl _ _).alloc (Nat.le_refl _) _⟩

set_option maxHeartbeats 400000 in
theorem bytes_no (a : Int) (w : World) (h : a < 0 ∨ 281474976710656 ≤ a) :
    Calls Try.prog 96 #[.int .i64 a] w fun e w' => e = .returned (.tuple #[.string ⟨#[]⟩, .int .i64 1]) ∧ Below w.heap.size w w' := by
  have H := Lib.hid h
  clear h
  go_enter Try.func96, Try.ntmps96
  go_wp2_with (go_at_call 71; refine (right_no _ _ H.out).mono ?_; rintro e w' ⟨rfl, rfl⟩)
  go_ret2
  exact ⟨rfl, Below.refl _ _⟩

end Go.Proofs.Ytnghilcjecjljaa.MacP
