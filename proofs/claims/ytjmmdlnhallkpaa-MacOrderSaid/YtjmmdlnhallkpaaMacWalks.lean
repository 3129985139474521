/-
  The walks of the statements of layer 1.
-/
import Derived.Test.YtjmmdlnhallkpaaMacL
namespace Go.Proofs.Ytjmmdlnhallkpaa.MacP
open Go.RowKit
set_option linter.unusedVariables false

set_option maxHeartbeats 1000000 in
theorem macTells_in (a : Int) (h0 : 0 ≤ a) (h1 : a < 281474976710656) (w : World) :
    Calls Try.prog 3 #[.int .i64 a] w fun e w' => e = .returned (.bool true) ∧ Below w.heap.size w w' := by
  go_enter Try.func3, Try.ntmps3
  go_wp2_with (first
    | (go_at_call 10; refine (class_yes _ _ h0 h1).mono ?_; rintro e w' ⟨rfl, rfl⟩)
    | (go_at_call 11; refine (bytes_yes _ _ h0 h1).mono ?_; rintro e w1 ⟨rfl, hb1⟩)
    | (go_at_call 12; refine (print_yes _ _ h0 h1).mono ?_; rintro e w2 ⟨rfl, hb2⟩)
    | (go_at_call 13; refine (right_yes _ _ h0 h1).mono ?_; rintro e w' ⟨rfl, rfl⟩)
    | (go_at_call 14; refine (ref_right_yes _ _ h0 h1).mono ?_; rintro e w' ⟨rfl, rfl⟩)
    | (go_at_call 15; refine (alive_any _).mono ?_; rintro e w3 ⟨rfl, hb3⟩)
    | (go_at_call 16; refine (ref_class _ _ h0 h1).mono ?_; rintro e w' ⟨rfl, rfl⟩)
    | (go_at_call 17; refine (ref_bytes _ _ h0 h1).mono ?_; rintro e w4 ⟨rfl, hb4⟩)
    | (go_at_call 18; refine (ref_print _ _ h0 h1).mono ?_; rintro e w5 ⟨rfl, hb5⟩))
  go_ret
  exact ⟨rfl, bt (bt (bt (bt hb1 hb2) hb3) hb4) hb5⟩

set_option maxHeartbeats 1000000 in
theorem macTells_out (a : Int) (h : a < 0 ∨ 281474976710656 ≤ a) (w : World) :
    Calls Try.prog 3 #[.int .i64 a] w fun e w' => e = .returned (.bool true) ∧ Below w.heap.size w w' := by
  have H := Lib.hid h
  clear h
  go_enter Try.func3, Try.ntmps3
  go_wp2_with (first
    | (go_at_call 10; refine (class_no _ _ H.out).mono ?_; rintro e w' ⟨rfl, rfl⟩)
    | (go_at_call 11; refine (bytes_no _ _ H.out).mono ?_; rintro e w1 ⟨rfl, hb1⟩)
    | (go_at_call 12; refine (print_no _ _ H.out).mono ?_; rintro e w2 ⟨rfl, hb2⟩)
    | (go_at_call 13; refine (right_no _ _ H.out).mono ?_; rintro e w' ⟨rfl, rfl⟩)
    | (go_at_call 14; refine (ref_right_no _ _ H.out).mono ?_; rintro e w' ⟨rfl, rfl⟩)
    | (go_at_call 15; refine (alive_any _).mono ?_; rintro e w3 ⟨rfl, hb3⟩))
  go_ret
  exact ⟨rfl, bt (bt hb1 hb2) hb3⟩

theorem macTells_any (a : Int) (wa : (Lit.int .i64 a).wf = true) (w : World) :
    Calls Try.prog 3 #[.int .i64 a] w fun e w' => e = .returned (.bool true) ∧ Below w.heap.size w w' := by
  by_cases h0 : 0 ≤ a
  · by_cases h1 : a < 281474976710656
    · exact macTells_in a h0 h1 w
    · exact macTells_out a (by omega) w
  · exact macTells_out a (by omega) w

theorem bdr {w a : World} (h : Below w.drew.heap.size w.drew a) : Below w.heap.size w a := ((Below.refl _ w).drew).trans h
theorem extract_le (s : ByteArray) (k : Nat) : (s.extract 0 k).size ≤ s.size := by rw [ByteArray.size_extract]; omega
theorem fr_7 (s : ByteArray) (h : s.size < 6) : fr s = (0, 7) := by unfold fr; rw [if_pos h]
theorem fr_8 (s : ByteArray) (h : 6 < s.size) : fr s = (0, 8) := by unfold fr; rw [if_neg (by omega), if_pos h]
theorem fr_0 (s : ByteArray) (h : s.size = 6) : fr s = (ofTo (gb s) 6, 0) := by unfold fr; rw [if_neg (by omega), if_neg (by omega)]

set_option maxHeartbeats 1000000 in
theorem macReads_any (s t : ByteArray) (hs : s.size ≤ maxLen) (ht : t.size ≤ maxLen) (w : World) :
    Calls Try.prog 4 #[.string s, .string t] w fun e w' => e = .returned (.bool true) ∧ Below w.heap.size w w' := by
  have ls := fun k => extract_le s k
  have lt := fun k => extract_le t k
  have LS := Lib.hid ls
  have LT := Lib.hid lt
  clear ls lt
  unfold maxLen at hs ht
  go_enter Try.func4, Try.ntmps4
  go_wp2
  go_region
  have us := LS.out (if 20 < (s.size : Int) then 20 else (s.size : Int)).toNat
  have ut := LT.out (if 30 < (t.size : Int) then 30 else (t.size : Int)).toNat
  generalize (if 20 < (s.size : Int) then (20 : Int) else (s.size : Int)) = k1 at *
  generalize (if 30 < (t.size : Int) then (30 : Int) else (t.size : Int)) = k2 at *
  generalize s.extract 0 k1.toNat = s1 at *
  generalize t.extract 0 k2.toNat = t1 at *
  have ms : s1.size ≤ maxLen := by unfold maxLen; omega
  have mt : t1.size ≤ maxLen := by unfold maxLen; omega
  have ms' : s1.size ≤ 9223372036854775807 := by omega
  clear LS LT us ut
  by_cases h6 : s1.size < 6
  · have HF := Lib.hid (fr_7 s1 h6)
    go_wp2_with (first
      | (go_at_call 19; refine (of_any _ _ ms).mono ?_; rw [HF.out]; rintro e w' ⟨rfl, rfl⟩)
      | (go_at_call 20; refine (parse_any _ _ mt).mono ?_; rintro e w1 ⟨rfl, hb1⟩)
      | (go_at_call 21; refine (ref_parse _ _ mt).mono ?_; rintro e w' ⟨rfl, rfl⟩)
      | (go_at_call 15; refine (alive_any _).mono ?_; rintro e w3 ⟨rfl, hb3⟩))
    go_ret
    exact ⟨rfl, bt (bdr hb1) hb3⟩
  · by_cases h7 : 6 < s1.size
    · have HF := Lib.hid (fr_8 s1 h7)
      go_wp2_with (first
        | (go_at_call 19; refine (of_any _ _ ms).mono ?_; rw [HF.out]; rintro e w' ⟨rfl, rfl⟩)
        | (go_at_call 20; refine (parse_any _ _ mt).mono ?_; rintro e w1 ⟨rfl, hb1⟩)
        | (go_at_call 21; refine (ref_parse _ _ mt).mono ?_; rintro e w' ⟨rfl, rfl⟩)
        | (go_at_call 15; refine (alive_any _).mono ?_; rintro e w3 ⟨rfl, hb3⟩))
      go_ret
      exact ⟨rfl, bt (bdr hb1) hb3⟩
    · have h66 := Lib.hid (show s1.size = 6 by omega)
      have HF := Lib.hid (fr_0 s1 h66.out)
      go_wp2_with (first
        | (go_at_call 19; refine (of_any _ _ ms).mono ?_; rw [HF.out]; rintro e w' ⟨rfl, rfl⟩)
        | (go_at_call 20; refine (parse_any _ _ mt).mono ?_; rintro e w1 ⟨rfl, hb1⟩)
        | (go_at_call 21; refine (ref_parse _ _ mt).mono ?_; rintro e w' ⟨rfl, rfl⟩)
        | (go_at_call 22; refine (ref_of _ _ h66.out).mono ?_; rintro e w' ⟨rfl, rfl⟩)
        | (go_at_call 15; refine (alive_any _).mono ?_; rintro e w3 ⟨rfl, hb3⟩))
      go_ret
      exact ⟨rfl, bt (bdr hb1) hb3⟩
end Go.Proofs.Ytjmmdlnhallkpaa.MacP
