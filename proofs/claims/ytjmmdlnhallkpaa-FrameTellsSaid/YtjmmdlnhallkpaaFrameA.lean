/-
  Contracts of frame's small functions: isSource, Right, typeBytes, checkLength, cut, addressOf, typeOf, join.
-/
import Derived.Test.YtjmmdlnhallkpaaMacC
import Derived.Laws.BytesArg
import Derived.Lib.SlBytesRow
import Derived.Lib.ConvBytes
import Derived.Lib.AppendStr
import Derived.Laws.StructEq
import Derived.Outline
namespace Go.Proofs.Ytjmmdlnhallkpaa.MacP
open Go.RowKit
set_option linter.unusedVariables false

def rightB (a : Int) : Bool := decide (0 ≤ a) && decide (a < 281474976710656)
theorem rightB_yes {a : Int} (h : rightB a = true) : 0 ≤ a ∧ a < 281474976710656 := by simpa [rightB] using h
theorem rightB_no {a : Int} (h : rightB a = false) : a < 0 ∨ 281474976710656 ≤ a := by
  unfold rightB at h
  rw [Bool.and_eq_false_iff] at h
  simp only [decide_eq_false_iff_not] at h
  omega
theorem right_is (a : Int) (b : Bool) (h : rightB a = b) (w : World) :
    Calls Try.prog 13 #[.int .i64 a] w fun e w' => e = .returned (.bool b) ∧ w = w' := by
  cases b
  · exact right_no a w (rightB_no h)
  · exact right_yes a w (rightB_yes h).1 (rightB_yes h).2

/-- Who may send: an address of no group. -/
def srcB (a : Int) : Bool := rightB a && (classI a == 0)
set_option maxHeartbeats 400000 in
theorem isSource_any (a : Int) (w : World) :
    Calls Try.prog 46 #[.int .i64 a] w fun e w' => e = .returned (.bool (srcB a)) ∧ w = w' := by
  cases h : rightB a
  · have H := Lib.hid (rightB_no h)
    have hs : Hid (srcB a = false) := Lib.hid (by rw [srcB, h]; rfl)
    clear h
    go_enter Try.func46, Try.ntmps46
    go_wp2_with (go_at_call 10; refine (class_no _ _ H.out).mono ?_; rintro e w' ⟨rfl, rfl⟩)
    go_ret
    exact ⟨by rw [hs.out]; rfl, rfl⟩
  · obtain ⟨h0, h1⟩ := rightB_yes h
    have hs : Hid (srcB a = (classI a == 0)) := Lib.hid (by rw [srcB, h]; rfl)
    clear h
    go_enter Try.func46, Try.ntmps46
    go_wp2_with (go_at_call 10; refine (class_yes _ _ h0 h1).mono ?_; rintro e w' ⟨rfl, rfl⟩)
    go_ret
    exact ⟨by rw [hs.out]; rfl, rfl⟩
theorem isSource_is (a : Int) (b : Bool) (h : srcB a = b) (w : World) :
    Calls Try.prog 46 #[.int .i64 a] w fun e w' => e = .returned (.bool b) ∧ w = w' := by
  subst h; exact isSource_any a w

/-- A frame as a value. -/
abbrev fv (d s t : Int) (x : ByteArray) : Value := .agg #[.int .i64 d, .int .i64 s, .int .i64 t, .string x]
def okB (d s t : Int) (x : ByteArray) : Bool := rightB d && srcB s && decide (0 ≤ t) && decide (t ≤ 65535) && decide (x.size ≤ 100)

set_option maxHeartbeats 400000 in
theorem fright_any (d s t : Int) (x : ByteArray) (w : World) (hx : x.size ≤ maxLen) :
    Calls Try.prog 29 #[fv d s t x] w fun e w' => e = .returned (.bool (okB d s t x)) ∧ Below w.heap.size w w' := by
  unfold maxLen at hx
  cases h1 : rightB d
  · have hs : Hid (okB d s t x = false) := Lib.hid (by rw [okB, h1]; rfl)
    have H1 := Lib.hid h1
    clear h1
    go_enter Try.func29, Try.ntmps29
    go_wp2_with (go_at_call 13; refine (right_is _ _ H1.out _).mono ?_; rintro e w' ⟨rfl, rfl⟩)
    go_ret
    exact ⟨by rw [hs.out]; rfl, (Below.refl _ _).alloc (Nat.le_refl _) _⟩
  · have H1 := Lib.hid h1
    cases h2 : srcB s
    · have hs : Hid (okB d s t x = false) := Lib.hid (by rw [okB, h1, h2]; rfl)
      have H2 := Lib.hid h2
      clear h1 h2
      go_enter Try.func29, Try.ntmps29
      go_wp2_with (first | (go_at_call 13; refine (right_is _ _ H1.out _).mono ?_; rintro e w' ⟨rfl, rfl⟩) | (go_at_call 46; refine (isSource_is _ _ H2.out _).mono ?_; rintro e w' ⟨rfl, rfl⟩))
      go_ret
      exact ⟨by rw [hs.out]; rfl, (Below.refl _ _).alloc (Nat.le_refl _) _⟩
    · have H2 := Lib.hid h2
      by_cases h3 : 0 ≤ t
      · by_cases h4 : t ≤ 65535
        · have hs : Hid (okB d s t x = decide ((x.size : Int) ≤ 100)) := Lib.hid (by rw [okB, h1, h2]; simp [h3, h4]; omega)
          clear h1 h2
          go_enter Try.func29, Try.ntmps29
          go_wp2_with (first | (go_at_call 13; refine (right_is _ _ H1.out _).mono ?_; rintro e w' ⟨rfl, rfl⟩) | (go_at_call 46; refine (isSource_is _ _ H2.out _).mono ?_; rintro e w' ⟨rfl, rfl⟩))
          go_ret
          exact ⟨by rw [hs.out]; rfl, (Below.refl _ _).alloc (Nat.le_refl _) _⟩
        · have hs : Hid (okB d s t x = false) := Lib.hid (by rw [okB]; simp [h4])
          have h4' : decide (t ≤ 65535) = false := by simpa using h4
          clear h1 h2 h4
          go_enter Try.func29, Try.ntmps29
          go_wp2_with (first | (go_at_call 13; refine (right_is _ _ H1.out _).mono ?_; rintro e w' ⟨rfl, rfl⟩) | (go_at_call 46; refine (isSource_is _ _ H2.out _).mono ?_; rintro e w' ⟨rfl, rfl⟩))
          go_ret
          exact ⟨by rw [hs.out]; rfl, (Below.refl _ _).alloc (Nat.le_refl _) _⟩
      · have hs : Hid (okB d s t x = false) := Lib.hid (by rw [okB]; simp [h3])
        have h3' : decide (0 ≤ t) = false := by simpa using h3
        clear h1 h2 h3
        go_enter Try.func29, Try.ntmps29
        go_wp2_with (first | (go_at_call 13; refine (right_is _ _ H1.out _).mono ?_; rintro e w' ⟨rfl, rfl⟩) | (go_at_call 46; refine (isSource_is _ _ H2.out _).mono ?_; rintro e w' ⟨rfl, rfl⟩))
        go_ret
        exact ⟨by rw [hs.out]; rfl, (Below.refl _ _).alloc (Nat.le_refl _) _⟩

set_option maxHeartbeats 400000 in
theorem typeBytes_any (t : Int) (w : World) (h0 : 0 ≤ t) (h1 : t ≤ 65535) :
    Calls Try.prog 41 #[.int .i64 t] w fun e w' => e = .returned (.string (strOfNums [t / 256, t % 256])) ∧ Below w.heap.size w w' := by
  have hc := run_convert_bytes_arg (P := Try.prog) (w.alloc (.cells #[.int .u8 (t / 256), .int .u8 (t % 256)] 5)) 47 5 Try.underlying47 Try.underlying5 w.heap.size 0 2 2 [t / 256, t % 256] rfl (by
    intro i hi
    match i, hi with
    | 0, _ => go_simp
    | 1, _ => go_simp) 9 Try.underlying9
  have e1 : t / 256 % 256 = t / 256 := by omega
  go_enter Try.func41, Try.ntmps41
  go_wp2
  go_ret
  exact ⟨rfl, (Below.refl _ _).alloc (Nat.le_refl _) _⟩

set_option maxHeartbeats 400000 in
theorem flen_any (s : ByteArray) (w : World) (hs : s.size ≤ maxLen) :
    Calls Try.prog 42 #[.string s] w fun e w' => e = .returned (.int .i64 (if s.size < 14 then 7 else if 114 < s.size then 8 else 0)) ∧ w = w' := by
  unfold maxLen at hs
  by_cases h1 : s.size < 14
  · rw [if_pos h1]
    go_enter Try.func42, Try.ntmps42
    go_wp2
    go_ret
    exact ⟨rfl, rfl⟩
  · rw [if_neg h1]
    by_cases h2 : 114 < s.size
    · rw [if_pos h2]
      go_enter Try.func42, Try.ntmps42
      go_wp2
      go_ret
      exact ⟨rfl, rfl⟩
    · rw [if_neg h2]
      go_enter Try.func42, Try.ntmps42
      go_wp2
      go_ret
      exact ⟨rfl, rfl⟩

end Go.Proofs.Ytjmmdlnhallkpaa.MacP
