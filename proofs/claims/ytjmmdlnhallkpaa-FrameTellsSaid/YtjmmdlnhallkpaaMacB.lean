/-
  Contracts of mac.Bytes and mac.Print.
-/
import Derived.Test.YtjmmdlnhallkpaaMacA
import Derived.Laws.BytesArg
import Derived.RegionTactic
import Derived.ChangeAlike
import Derived.BigRegion
import Derived.StillTailTactics
namespace Go.Proofs.Ytjmmdlnhallkpaa.MacP
open Go.RowKit
set_option linter.unusedVariables false

theorem bt {w a b : World} (h1 : Below w.heap.size w a) (h2 : Below a.heap.size a b) : Below w.heap.size w b := h1.trans (h2.mono h1.size)

def byteNums (a : Int) : List Int := [bAt a 0, bAt a 1, bAt a 2, bAt a 3, bAt a 4, bAt a 5]

set_option maxHeartbeats 400000 in
theorem bytes_yes (a : Int) (w : World) (h0 : 0 ≤ a) (h1 : a < 281474976710656) :
    Calls Try.prog 11 #[.int .i64 a] w fun e w' => e = .returned (.tuple #[.string (strOfNums (byteNums a)), .int .i64 0]) ∧ Below w.heap.size w w' := by
  go_enter Try.func11, Try.ntmps11
  go_wp2_with (go_at_call 13; refine (right_yes _ _ h0 h1).mono ?_; rintro e w' ⟨rfl, rfl⟩)
  refine wp_loop_rounds 7 ?_
  iterate 6 (rw [rounds_succ]; go_wp2_with (go_at_call 35; refine (byteAt_any _ _ _ (by omega) (by omega)).mono ?_; rintro e w' ⟨rfl, rfl⟩))
  rw [rounds_succ]
  go_wp2
  rw [run_convert_bytes_arg _ 47 5 Try.underlying47 Try.underlying5 w.heap.size 0 6 6 (byteNums a) rfl (by
    intro i hi
    match i, hi with
    | 0, _ => go_simp; rfl
    | 1, _ => go_simp; rfl
    | 2, _ => go_simp; rfl
    | 3, _ => go_simp; rfl
    | 4, _ => go_simp; rfl
    | 5, _ => go_simp; rfl) 9 Try.underlying9]
  go_wp2
  go_ret2
  exact ⟨rfl, (Below.refl _ _).alloc (Nat.le_refl _) _⟩

set_option maxHeartbeats 400000 in
theorem bytes_no (a : Int) (w : World) (h : a < 0 ∨ 281474976710656 ≤ a) :
    Calls Try.prog 11 #[.int .i64 a] w fun e w' => e = .returned (.tuple #[.string ⟨#[]⟩, .int .i64 1]) ∧ Below w.heap.size w w' := by
  have H := Lib.hid h
  clear h
  go_enter Try.func11, Try.ntmps11
  go_wp2_with (go_at_call 13; refine (right_no _ _ H.out).mono ?_; rintro e w' ⟨rfl, rfl⟩)
  go_ret2
  exact ⟨rfl, Below.refl _ _⟩

def hexd (x : Int) : Int := if x < 10 then 48 + x else 87 + x
theorem hex_at (x : Int) (h0 : 0 ≤ x) (h1 : x < 16) (w : World) : (Instr.index 9 (.string ⟨#[48, 49, 50, 51, 52, 53, 54, 55, 56, 57, 97, 98, 99, 100, 101, 102]⟩) (.int .u8 x)).run Try.prog w = .ok (.int .u8 (hexd x)) w := by
  obtain rfl | rfl | rfl | rfl | rfl | rfl | rfl | rfl | rfl | rfl | rfl | rfl | rfl | rfl | rfl | rfl : x = 0 ∨ x = 1 ∨ x = 2 ∨ x = 3 ∨ x = 4 ∨ x = 5 ∨ x = 6 ∨ x = 7 ∨ x = 8 ∨ x = 9 ∨ x = 10 ∨ x = 11 ∨ x = 12 ∨ x = 13 ∨ x = 14 ∨ x = 15 := by omega
  all_goals (clear h0 h1; kernel_rfl)

def textNums (a : Int) : List Int :=
  [hexd (bAt a 0 / 16), hexd (bAt a 0 % 16), 58, hexd (bAt a 1 / 16), hexd (bAt a 1 % 16), 58, hexd (bAt a 2 / 16), hexd (bAt a 2 % 16), 58,
   hexd (bAt a 3 / 16), hexd (bAt a 3 % 16), 58, hexd (bAt a 4 / 16), hexd (bAt a 4 % 16), 58, hexd (bAt a 5 / 16), hexd (bAt a 5 % 16)]

set_option maxHeartbeats 4000000 in
theorem print_yes (a : Int) (w : World) (h0 : 0 ≤ a) (h1 : a < 281474976710656) :
    Calls Try.prog 12 #[.int .i64 a] w fun e w' => e = .returned (.tuple #[.string (strOfNums (textNums a)), .int .i64 0]) ∧ Below w.heap.size w w' := by
  have hb0 := bAt_bd a 0
  have hx0 := hex_at (bAt a 0 / 16) (by omega) (by omega)
  have hy0 := hex_at (bAt a 0 % 16) (by omega) (by omega)
  have hb1 := bAt_bd a 1
  have hx1 := hex_at (bAt a 1 / 16) (by omega) (by omega)
  have hy1 := hex_at (bAt a 1 % 16) (by omega) (by omega)
  have hb2 := bAt_bd a 2
  have hx2 := hex_at (bAt a 2 / 16) (by omega) (by omega)
  have hy2 := hex_at (bAt a 2 % 16) (by omega) (by omega)
  have hb3 := bAt_bd a 3
  have hx3 := hex_at (bAt a 3 / 16) (by omega) (by omega)
  have hy3 := hex_at (bAt a 3 % 16) (by omega) (by omega)
  have hb4 := bAt_bd a 4
  have hx4 := hex_at (bAt a 4 / 16) (by omega) (by omega)
  have hy4 := hex_at (bAt a 4 % 16) (by omega) (by omega)
  have hb5 := bAt_bd a 5
  have hx5 := hex_at (bAt a 5 / 16) (by omega) (by omega)
  have hy5 := hex_at (bAt a 5 % 16) (by omega) (by omega)
  have hmk : ∀ w : World, (Instr.makeSlice 47 (.int .i64 0) (.int .i64 17)).run Try.prog w = .ok (.slice (some ⟨w.heap.size, 0, none⟩) 0 17) (w.alloc (.cells #[.int .u8 0, .int .u8 0, .int .u8 0, .int .u8 0, .int .u8 0, .int .u8 0, .int .u8 0, .int .u8 0, .int .u8 0, .int .u8 0, .int .u8 0, .int .u8 0, .int .u8 0, .int .u8 0, .int .u8 0, .int .u8 0, .int .u8 0] 5)) := fun _ => by kernel_rfl
  go_enter Try.func12, Try.ntmps12
  go_wp2_with (go_at_call 13; refine (right_yes _ _ h0 h1).mono ?_; rintro e w' ⟨rfl, rfl⟩)
  refine wp_loop_rounds 7 ?_
  iterate 6
    rw [rounds_succ]
    go_wp2_with (go_at_call 35; refine (byteAt_any _ _ _ (by omega) (by omega)).mono ?_; rintro e w' ⟨rfl, rfl⟩)
    go_region
    go_wp2
  rw [rounds_succ]
  go_wp2
  rw [run_convert_bytes_arg _ 47 5 Try.underlying47 Try.underlying5 w.heap.size 0 17 17 (textNums a) rfl (by
    intro i hi
    match i, hi with
    | 0, _ => go_simp; rfl
    | 1, _ => go_simp; rfl
    | 2, _ => go_simp; rfl
    | 3, _ => go_simp; rfl
    | 4, _ => go_simp; rfl
    | 5, _ => go_simp; rfl
    | 6, _ => go_simp; rfl
    | 7, _ => go_simp; rfl
    | 8, _ => go_simp; rfl
    | 9, _ => go_simp; rfl
    | 10, _ => go_simp; rfl
    | 11, _ => go_simp; rfl
    | 12, _ => go_simp; rfl
    | 13, _ => go_simp; rfl
    | 14, _ => go_simp; rfl
    | 15, _ => go_simp; rfl
    | 16, _ => go_simp; rfl
    | i + 17, hi => exact absurd hi (by omega)) 9 Try.underlying9]
  go_wp2
  go_ret2
  refine ⟨rfl, ?_⟩
  repeat (first | exact Below.refl _ _ | apply Below.drew | refine Below.alloc ?_ (by simp; try omega) _)

set_option maxHeartbeats 400000 in
theorem print_no (a : Int) (w : World) (h : a < 0 ∨ 281474976710656 ≤ a) :
    Calls Try.prog 12 #[.int .i64 a] w fun e w' => e = .returned (.tuple #[.string ⟨#[]⟩, .int .i64 1]) ∧ Below w.heap.size w w' := by
  have H := Lib.hid h
  clear h
  go_enter Try.func12, Try.ntmps12
  go_wp2_with (go_at_call 13; refine (right_no _ _ H.out).mono ?_; rintro e w' ⟨rfl, rfl⟩)
  go_ret2
  exact ⟨rfl, Below.refl _ _⟩
end Go.Proofs.Ytjmmdlnhallkpaa.MacP
