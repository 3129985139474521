/-
  The contract of footwayref01.Print.
-/
import Derived.Test.YtjmmdlnhallkpaaMacR
namespace Go.Proofs.Ytjmmdlnhallkpaa.MacP
open Go.RowKit
set_option linter.unusedVariables false

theorem below3 {n : Nat} {w wr a b : World} (h1 : Below n w wr) (hn : n ≤ wr.heap.size) (h2 : Below wr.drew.heap.size wr.drew a) (h3 : Below a.heap.size a b) : Below n w b :=
  (h1.drew.trans (h2.mono hn)).trans (h3.mono (Nat.le_trans hn h2.size))

set_option maxHeartbeats 1000000 in
theorem ref_print (a : Int) (w : World) (h0 : 0 ≤ a) (h1 : a < 281474976710656) :
    Calls Try.prog 18 #[.int .i64 a] w fun e w' => e = .returned (.string (strOfNums (textNums a))) ∧ Below w.heap.size w w' := by
  go_enter Try.func18, Try.ntmps18
  go_wp2_with (go_at_call 17; refine (ref_bytes _ _ h0 h1).mono ?_; rintro e w1 ⟨rfl, hb1⟩)
  go_loopw [3, 5] (fun out i wr => ∃ k : Nat, k ≤ 6 ∧ out = .string (strOfNums (txt a k)) ∧ i = .int .i64 k ∧ Below w.heap.size w wr) (fun _ i _ => 6 - (intOf i).toNat)
  case atStart => exact ⟨0, by omega, rfl, rfl, hb1⟩
  case round =>
    clear hb1
    obtain ⟨k, hk, rfl, rfl, hbl⟩ := hrel
    by_cases hlt : k < 6
    · have hbd := bAt_bd a k
      have hle := txt_len a k
      have hix := byte_at a k hlt
      by_cases hk0 : k = 0
      · have hts := Lib.hid (txt_0 a k hk0)
        have hpos : decide (0 < k) = false := by simp only [decide_eq_false_iff_not]; omega
        generalize txt a k = ys at *
        generalize bAt a k = x at *
        clear hk0
        
        have d1 : ∀ w, (Op.stringOp .add (strOfNums ys) (strOfNums [hexd (x / 16)])).run Try.prog w = .ok (.string (strOfNums (ys ++ [hexd (x / 16)]))) w := fun w => str_add ys [hexd (x / 16)] w (by simp; omega)
        have d2 : ∀ w, (Op.stringOp .add (strOfNums (ys ++ [hexd (x / 16)])) (strOfNums [hexd (x % 16)])).run Try.prog w = .ok (.string (strOfNums (ys ++ [hexd (x / 16), hexd (x % 16)]))) w := fun w => by
          have := str_add (ys ++ [hexd (x / 16)]) [hexd (x % 16)] w (by simp; omega)
          rw [this]; simp
        have q1 : 0 ≤ x / 16 := by omega
        have q2 : x / 16 < 16 := by omega
        have q3 : 0 ≤ x % 16 := by omega
        have q4 : x % 16 < 16 := by omega
        have v1 : IntKind.i64.wrap x = x := IntWalk.i64_in _ (by omega)
        have v2 : x.tdiv 16 = x / 16 := Int.tdiv_eq_ediv_of_nonneg hbd.1
        have v3 : IntKind.i64.wrap (x / 16) = x / 16 := IntWalk.i64_in _ (by omega)
        have v4 : x.tmod 16 = x % 16 := Int.tmod_eq_emod_of_nonneg hbd.1
        have v5 : IntKind.i64.wrap (x % 16) = x % 16 := IntWalk.i64_in _ (by omega)
        go_wp2_with fail
        go_region_with ((go_at_call 36; refine (ref_digit _ _ (by assumption) (by assumption)).mono ?_; rintro e w2 ⟨rfl, hb2⟩))
        all_goals
          clear v1 v2 v3 v4 v5 d1 d2
          go_wp2
          go_roundw
          case rel => exact ⟨k + 1, by omega, by rw [hts.out]; simp, by go_num, below3 hbl hbl.size (by assumption) (by assumption)⟩
          case measure => simp [intOf]; omega
      · have hts := Lib.hid (txt_s a k hk0)
        have hpos : decide (0 < k) = true := by simp only [decide_eq_true_iff]; omega
        generalize txt a k = ys at *
        generalize bAt a k = x at *
        clear hk0
        have d0 := fun w => str_58 ys w (by omega)
        have d1 : ∀ w, (Op.stringOp .add (strOfNums (ys ++ [58])) (strOfNums [hexd (x / 16)])).run Try.prog w = .ok (.string (strOfNums (ys ++ [58, hexd (x / 16)]))) w := fun w => by
          have := str_add (ys ++ [58]) [hexd (x / 16)] w (by simp; omega)
          rw [this]; simp
        have d2 : ∀ w, (Op.stringOp .add (strOfNums (ys ++ [58, hexd (x / 16)])) (strOfNums [hexd (x % 16)])).run Try.prog w = .ok (.string (strOfNums (ys ++ [58, hexd (x / 16), hexd (x % 16)]))) w := fun w => by
          have := str_add (ys ++ [58, hexd (x / 16)]) [hexd (x % 16)] w (by simp; omega)
          rw [this]; simp
        have q1 : 0 ≤ x / 16 := by omega
        have q2 : x / 16 < 16 := by omega
        have q3 : 0 ≤ x % 16 := by omega
        have q4 : x % 16 < 16 := by omega
        have v1 : IntKind.i64.wrap x = x := IntWalk.i64_in _ (by omega)
        have v2 : x.tdiv 16 = x / 16 := Int.tdiv_eq_ediv_of_nonneg hbd.1
        have v3 : IntKind.i64.wrap (x / 16) = x / 16 := IntWalk.i64_in _ (by omega)
        have v4 : x.tmod 16 = x % 16 := Int.tmod_eq_emod_of_nonneg hbd.1
        have v5 : IntKind.i64.wrap (x % 16) = x % 16 := IntWalk.i64_in _ (by omega)
        go_wp2_with fail
        go_region_with ((go_at_call 36; refine (ref_digit _ _ (by assumption) (by assumption)).mono ?_; rintro e w2 ⟨rfl, hb2⟩))
        all_goals
          clear v1 v2 v3 v4 v5 d1 d2
          go_wp2
          go_roundw
          case rel => exact ⟨k + 1, by omega, by rw [hts.out]; simp, by go_num, below3 hbl hbl.size (by assumption) (by assumption)⟩
          case measure => simp [intOf]; omega
    · go_wp2
      go_ret
      have hk6 : k = 6 := by omega
      subst hk6
      exact ⟨by rw [txt_6]; rfl, hbl⟩
end Go.Proofs.Ytjmmdlnhallkpaa.MacP
