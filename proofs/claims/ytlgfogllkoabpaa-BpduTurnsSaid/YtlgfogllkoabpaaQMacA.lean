/-
  Contracts of mac's small functions: byteAt, Right, isReserved, isOfGroup, Class, checkLength.
-/
import Derived.Test.YtlgfogllkoabpaaRows
import Derived.Test.YtlgfogllkoabpaaQb
import Derived.WalkKit
import Derived.WalkSpells
import Derived.WalkLawsBesides
import Derived.BigQuiet
import Derived.Lib.Hide
import Derived.Laws.BytesArg
import Derived.RegionTactic
import Derived.ChangeAlike
import Derived.BigRegion
import Derived.StillTailTactics
import Derived.Laws.RangeAny
import Derived.IntWalk
import Derived.Deep.RegionWith
import Derived.Deep.RegionHeld3
import Derived.Laws.Concat
import Derived.Lib.Strings
import Derived.WideShapes
namespace Go.Proofs.Ytlgfogllkoabpaa.QMacP
open Go.RowKit
set_option linter.unusedVariables false
set_option maxRecDepth 100000

/-- The byte of an address at place i, the highest first. -/
def bAt (a i : Int) : Int := a / 2 ^ (8 * (5 - i)).toNat % 256
theorem bAt_bd (a i : Int) : 0 ≤ bAt a i ∧ bAt a i < 256 := by unfold bAt; omega

set_option maxHeartbeats 400000 in
theorem byteAt_any (a i : Int) (w : World) (i0 : 0 ≤ i) (i1 : i ≤ 5) :
    Calls TryQ.prog 71 #[.int .i64 a, .int .i64 i] w fun e w' => e = .returned (.int .u8 (bAt a i)) ∧ w = w' := by
  go_enter TryQ.func71, Try.ntmps71
  go_wp2
  go_ret
  exact ⟨rfl, rfl⟩

set_option maxHeartbeats 400000 in
theorem right_yes (a : Int) (w : World) (h0 : 0 ≤ a) (h1 : a < 281474976710656) :
    Calls TryQ.prog 70 #[.int .i64 a] w fun e w' => e = .returned (.bool true) ∧ w = w' := by
  have h2 : decide (a ≤ 281474976710655) = true := by simp; omega
  go_enter TryQ.func70, Try.ntmps70
  go_wp2
  go_ret
  exact ⟨rfl, rfl⟩

set_option maxHeartbeats 400000 in
theorem right_no (a : Int) (w : World) (h : a < 0 ∨ 281474976710656 ≤ a) :
    Calls TryQ.prog 70 #[.int .i64 a] w fun e w' => e = .returned (.bool false) ∧ w = w' := by
  by_cases h0 : 0 ≤ a
  · have h2 : decide (a ≤ 281474976710655) = false := by simp; omega
    clear h
    go_enter TryQ.func70, Try.ntmps70
    go_wp2
    go_ret
    exact ⟨rfl, rfl⟩
  · clear h
    have h2 : decide (0 ≤ a) = false := by simp; omega
    go_enter TryQ.func70, Try.ntmps70
    go_wp2
    go_ret
    exact ⟨rfl, rfl⟩

def resB (a : Int) : Bool := decide (1652522221568 ≤ a) && decide (a ≤ 1652522221583)

set_option maxHeartbeats 400000 in
theorem reserved_any (a : Int) (w : World) :
    Calls TryQ.prog 82 #[.int .i64 a] w fun e w' => e = .returned (.bool (resB a)) ∧ w = w' := by
  by_cases h0 : decide (1652522221568 ≤ a) = true
  · by_cases h1 : decide (a ≤ 1652522221583) = true
    · go_enter TryQ.func82, Try.ntmps82
      go_wp2
      go_ret
      exact ⟨by rw [resB, h0, h1]; rfl, rfl⟩
    · replace h1 : decide (a ≤ 1652522221583) = false := by simpa using h1
      go_enter TryQ.func82, Try.ntmps82
      go_wp2
      go_ret
      exact ⟨by rw [resB, h0, h1]; rfl, rfl⟩
  · replace h0 : decide (1652522221568 ≤ a) = false := by simpa using h0
    go_enter TryQ.func82, Try.ntmps82
    go_wp2
    go_ret
    exact ⟨by rw [resB, h0]; rfl, rfl⟩

theorem ret_bool {a b : Bool} (h : a = b) : Ending.returned (.bool a) = .returned (.bool b) := by rw [h]
theorem and_one (x : Int) (h0 : 0 ≤ x) (h1 : x < 256) : bits .and .u8 x 1 = x % 2 := by
  rw [u8_and x 1 h0 h1 (by omega) (by omega)]
  show ((x.toNat &&& 1 : Nat) : Int) = _
  rw [Nat.and_one_is_mod]; omega
def grpB (a : Int) : Bool := bAt a 0 % 2 == 1

set_option maxHeartbeats 400000 in
theorem group_any (a : Int) (w : World) :
    Calls TryQ.prog 83 #[.int .i64 a] w fun e w' => e = .returned (.bool (grpB a)) ∧ w = w' := by
  have hb := bAt_bd a 0
  go_enter TryQ.func83, Try.ntmps83
  go_wp2_with (go_at_call 71; refine (byteAt_any _ _ _ (by omega) (by omega)).mono ?_; rintro e w' ⟨rfl, rfl⟩)
  go_ret
  refine ⟨?_, rfl⟩
  show Ending.returned (.bool _) = _
  rw [and_one _ hb.1 hb.2, grpB]


set_option maxHeartbeats 400000 in
theorem len_any (s : ByteArray) (n : Int) (w : World) (hs : s.size ≤ maxLen) :
    Calls TryQ.prog 81 #[.string s, .int .i64 n] w fun e w' => e = .returned (.int .i64 (if (s.size : Int) < n then 7 else if n < s.size then 8 else 0)) ∧ w = w' := by
  unfold maxLen at hs
  by_cases h1 : (s.size : Int) < n
  · go_enter TryQ.func81, Try.ntmps81
    go_wp2
    go_ret
    exact ⟨rfl, rfl⟩
  · by_cases h2 : n < s.size
    · go_enter TryQ.func81, Try.ntmps81
      go_wp2
      go_ret
      exact ⟨rfl, rfl⟩
    · go_enter TryQ.func81, Try.ntmps81
      go_wp2
      go_ret
      exact ⟨rfl, rfl⟩

def classI (a : Int) : Int := if resB a then 2 else if grpB a then 1 else 0

set_option maxHeartbeats 400000 in
theorem class_yes (a : Int) (w : World) (h0 : 0 ≤ a) (h1 : a < 281474976710656) :
    Calls TryQ.prog 73 #[.int .i64 a] w fun e w' => e = .returned (.tuple #[.int .i64 (classI a), .int .i64 0]) ∧ w = w' := by
  unfold classI
  by_cases hr : resB a = true
  · rw [if_pos hr]
    go_enter TryQ.func73, Try.ntmps73
    go_wp2_with (first | (go_at_call 70; refine (right_yes _ _ h0 h1).mono ?_; rintro e w' ⟨rfl, rfl⟩) | (go_at_call 82; refine (reserved_any _ _).mono ?_; rintro e w' ⟨rfl, rfl⟩))
    go_ret2
    exact ⟨rfl, rfl⟩
  · replace hr : resB a = false := by simpa using hr
    rw [hr]
    by_cases hg : grpB a = true
    · rw [hg]
      go_enter TryQ.func73, Try.ntmps73
      go_wp2_with (first | (go_at_call 70; refine (right_yes _ _ h0 h1).mono ?_; rintro e w' ⟨rfl, rfl⟩) | (go_at_call 82; refine (reserved_any _ _).mono ?_; rintro e w' ⟨rfl, rfl⟩) | (go_at_call 83; refine (group_any _ _).mono ?_; rintro e w' ⟨rfl, rfl⟩))
      go_ret2
      exact ⟨rfl, rfl⟩
    · replace hg : grpB a = false := by simpa using hg
      rw [hg]
      go_enter TryQ.func73, Try.ntmps73
      go_wp2_with (first | (go_at_call 70; refine (right_yes _ _ h0 h1).mono ?_; rintro e w' ⟨rfl, rfl⟩) | (go_at_call 82; refine (reserved_any _ _).mono ?_; rintro e w' ⟨rfl, rfl⟩) | (go_at_call 83; refine (group_any _ _).mono ?_; rintro e w' ⟨rfl, rfl⟩))
      go_ret2
      exact ⟨rfl, rfl⟩

set_option maxHeartbeats 400000 in
theorem class_no (a : Int) (w : World) (h : a < 0 ∨ 281474976710656 ≤ a) :
    Calls TryQ.prog 73 #[.int .i64 a] w fun e w' => e = .returned (.tuple #[.int .i64 0, .int .i64 1]) ∧ w = w' := by
  have H := Lib.hid h
  clear h
  go_enter TryQ.func73, Try.ntmps73
  go_wp2_with (go_at_call 70; refine (right_no _ _ H.out).mono ?_; rintro e w' ⟨rfl, rfl⟩)
  go_ret2
  exact ⟨rfl, rfl⟩

end Go.Proofs.Ytlgfogllkoabpaa.QMacP

/-
  Contract of mac.Bytes.
-/
namespace Go.Proofs.Ytlgfogllkoabpaa.QMacP
open Go.RowKit
set_option linter.unusedVariables false
set_option maxRecDepth 100000

theorem bt {w a b : World} (h1 : Below w.heap.size w a) (h2 : Below a.heap.size a b) : Below w.heap.size w b := h1.trans (h2.mono h1.size)

def byteNums (a : Int) : List Int := [bAt a 0, bAt a 1, bAt a 2, bAt a 3, bAt a 4, bAt a 5]

set_option maxRecDepth 100000 in
set_option maxHeartbeats 400000 in
theorem bytes_yes (a : Int) (w : World) (h0 : 0 ≤ a) (h1 : a < 281474976710656) :
    Calls TryQ.prog 38 #[.int .i64 a] w fun e w' => e = .returned (.tuple #[.string (strOfNums (byteNums a)), .int .i64 0]) ∧ Below w.heap.size w w' := by
  go_enter TryQ.func38, Try.ntmps38
  go_wp2_with (go_at_call 70; refine (right_yes _ _ h0 h1).mono ?_; rintro e w' ⟨rfl, rfl⟩)
  refine wp_loop_rounds 7 ?_
  iterate 6 (rw [rounds_succ]; go_wp2_with (go_at_call 71; refine (byteAt_any _ _ _ (by omega) (by omega)).mono ?_; rintro e w' ⟨rfl, rfl⟩))
  rw [rounds_succ]
  go_wp2
  rw [run_convert_bytes_arg _ 36 5 TryQ.underlying36 TryQ.underlying5 w.heap.size 0 6 6 (byteNums a) rfl (by
    intro i hi
    match i, hi with
    | 0, _ => go_simp; rfl
    | 1, _ => go_simp; rfl
    | 2, _ => go_simp; rfl
    | 3, _ => go_simp; rfl
    | 4, _ => go_simp; rfl
    | 5, _ => go_simp; rfl) 9 TryQ.underlying9]
  go_wp2
  go_ret2
  exact ⟨rfl, (Below.refl _ _).alloc (Nat.le_refl _) _⟩

set_option maxHeartbeats 400000 in
theorem bytes_no (a : Int) (w : World) (h : a < 0 ∨ 281474976710656 ≤ a) :
    Calls TryQ.prog 38 #[.int .i64 a] w fun e w' => e = .returned (.tuple #[.string ⟨#[]⟩, .int .i64 1]) ∧ Below w.heap.size w w' := by
  have H := Lib.hid h
  clear h
  go_enter TryQ.func38, Try.ntmps38
  go_wp2_with (go_at_call 70; refine (right_no _ _ H.out).mono ?_; rintro e w' ⟨rfl, rfl⟩)
  go_ret2
  exact ⟨rfl, Below.refl _ _⟩

end Go.Proofs.Ytlgfogllkoabpaa.QMacP

/-
  Contract of mac.Of.
-/
namespace Go.Proofs.Ytlgfogllkoabpaa.QMacP
open Go.RowKit
set_option linter.unusedVariables false
set_option maxRecDepth 100000

def gb (s : ByteArray) (i : Nat) : Int := (s.data.toList.getD i 0).toNat
theorem bits_or_i64_nat (a b : Nat) (ha : a < 9223372036854775808) (hb : b < 9223372036854775808) : bits .or .i64 (a : Int) (b : Int) = ((a ||| b : Nat) : Int) := by
  have hx : a ||| b < 2 ^ 63 := Nat.or_lt_two_pow (by omega) (by omega)
  have h1 : (BitVec.ofInt 64 (a : Int)).toNat = a := by
    rw [BitVec.ofInt_natCast, BitVec.toNat_ofNat]; exact Nat.mod_eq_of_lt (by omega)
  have h2 : (BitVec.ofInt 64 (b : Int)).toNat = b := by
    rw [BitVec.ofInt_natCast, BitVec.toNat_ofNat]; exact Nat.mod_eq_of_lt (by omega)
  show IntKind.i64.wrap ((BitVec.ofInt 64 (a : Int) ||| BitVec.ofInt 64 (b : Int)).toNat : Int) = _
  rw [BitVec.toNat_or, h1, h2, IntKind.wrap_i64]
  omega
/-- x shifted by k bits, and y in these bits. -/
theorem or_add (x y : Int) (k : Nat) (hx : 0 ≤ x) (hy : 0 ≤ y) (hk : y < 2 ^ k) (hb : x * 2 ^ k < 9223372036854775808) (hyb : y < 9223372036854775808) : bits .or .i64 (x * 2 ^ k) y = x * 2 ^ k + y := by
  obtain ⟨a, rfl⟩ := Int.eq_ofNat_of_zero_le hx
  obtain ⟨b, rfl⟩ := Int.eq_ofNat_of_zero_le hy
  have e : ((a : Int) * 2 ^ k) = ((a * 2 ^ k : Nat) : Int) := by push_cast; rfl
  have hk' : b < 2 ^ k := by have : ((b : Nat) : Int) < ((2 ^ k : Nat) : Int) := by push_cast; exact hk
                             omega
  rw [e] at hb ⊢
  rw [bits_or_i64_nat _ _ (by omega) (by omega)]
  rw [← Nat.shiftLeft_eq, Nat.shiftLeft_add_eq_or_of_lt hk' a |>.symm]
  push_cast; rfl
theorem or_16 (x y : Int) (hx : 0 ≤ x) (hy : 0 ≤ y) (hk : y < 16) (hb : x < 281474976710656) : bits .or .i64 (x * 16) y = 16 * x + y := by
  have := or_add x y 4 hx hy (by omega) (by omega) (by omega)
  simp only [show (2 : Int) ^ 4 = 16 from rfl] at this
  rw [this]; omega
theorem or_256 (x y : Int) (hx : 0 ≤ x) (hy : 0 ≤ y) (hk : y < 256) (hb : x < 281474976710656) : bits .or .i64 (x * 256) y = 256 * x + y := by
  have := or_add x y 8 hx hy (by omega) (by omega) (by omega)
  simp only [show (2 : Int) ^ 8 = 256 from rfl] at this
  rw [this]; omega

theorem get_gb (s : ByteArray) (i : Nat) (h : i < s.size) : ((s[i]'h).toNat : Int) = gb s i := by
  have h' : i < s.data.toList.length := by simpa using h
  unfold gb
  rw [List.getD_eq_getElem?_getD, List.getElem?_eq_getElem h']
  simp; rfl
theorem len_7 (s : ByteArray) (n : Int) (w : World) (hs : s.size ≤ maxLen) (h : (s.size : Int) < n) :
    Calls TryQ.prog 81 #[.string s, .int .i64 n] w fun e w' => e = .returned (.int .i64 7) ∧ w = w' :=
  (len_any s n w hs).mono fun e w' ⟨h1, h2⟩ => ⟨by rw [h1, if_pos h], h2⟩
theorem len_8 (s : ByteArray) (n : Int) (w : World) (hs : s.size ≤ maxLen) (h : n < s.size) :
    Calls TryQ.prog 81 #[.string s, .int .i64 n] w fun e w' => e = .returned (.int .i64 8) ∧ w = w' :=
  (len_any s n w hs).mono fun e w' ⟨h1, h2⟩ => ⟨by rw [h1, if_neg (by omega), if_pos h], h2⟩
theorem len_0 (s : ByteArray) (n : Int) (w : World) (hs : s.size ≤ maxLen) (h : n = s.size) :
    Calls TryQ.prog 81 #[.string s, .int .i64 n] w fun e w' => e = .returned (.int .i64 0) ∧ w = w' :=
  (len_any s n w hs).mono fun e w' ⟨h1, h2⟩ => ⟨by rw [h1, if_neg (by omega), if_neg (by omega)], h2⟩

/-- The number of six bytes, the highest first. -/
def ofTo (f : Nat → Int) : Nat → Int
  | 0 => 0
  | k + 1 => 256 * ofTo f k + f k
theorem gb_bd (s : ByteArray) (i : Nat) : 0 ≤ gb s i ∧ gb s i < 256 := by
  unfold gb
  have := (s.data.toList.getD i 0).toNat_lt
  omega
theorem ofTo_bd (s : ByteArray) (k : Nat) : 0 ≤ ofTo (gb s) k ∧ ofTo (gb s) k < 256 ^ k := by
  induction k with
  | zero => exact ⟨by simp [ofTo], by simp [ofTo]⟩
  | succ k ih =>
    have := gb_bd s k
    rw [ofTo, Int.pow_succ]
    omega
/-- What Of tells. -/
def fr (s : ByteArray) : Int × Int := if s.size < 6 then (0, 7) else if 6 < s.size then (0, 8) else (ofTo (gb s) 6, 0)
theorem pow_le (k : Nat) (h : k < 6) : (256 : Int) ^ k ≤ 1099511627776 := by
  obtain h | h | h | h | h | h : k = 0 ∨ k = 1 ∨ k = 2 ∨ k = 3 ∨ k = 4 ∨ k = 5 := by omega
  all_goals (subst h; decide)

set_option maxHeartbeats 400000 in
theorem of_6 (s : ByteArray) (w : World) (hs : s.size = 6) :
    Calls TryQ.prog 72 #[.string s] w fun e w' => e = .returned (.tuple #[.int .i64 (fr s).1, .int .i64 (fr s).2]) ∧ w = w' := by
  have hpr : Hid (fr s = (ofTo (gb s) 6, 0)) := Lib.hid (by unfold fr; rw [if_neg (by omega), if_neg (by omega)])
  have HS := Lib.hid hs
  have hs1 : s.size ≤ maxLen := by unfold maxLen; omega
  clear hs
  go_enter TryQ.func72, Try.ntmps72
  go_wp2_with (go_at_call 81; refine (len_0 _ _ _ hs1 (by rw [HS.out]; rfl)).mono ?_; rintro e w' ⟨rfl, rfl⟩)
  go_loop [5, 14] (fun t i => ∃ k : Nat, k ≤ s.size ∧ i = .int .i64 k ∧ t = .int .i64 (ofTo (gb s) k)) (fun _ i => s.size - (intOf i).toNat)
  case atStart => exact ⟨0, Nat.zero_le _, rfl, rfl⟩
  case round =>
    obtain ⟨k, hk, rfl, rfl⟩ := hrel
    by_cases hlt : k < s.size
    · have hbd := ofTo_bd s k
      have hk6 : k < 6 := by rw [HS.out] at hlt; exact hlt
      have hpl := pow_le k hk6
      have hg := gb_bd s k
      have hgk := Lib.hid (get_gb s k hlt)
      have hor : Hid (bits .or .i64 (ofTo (gb s) k * 256) (gb s k) = ofTo (gb s) (k + 1)) := Lib.hid (or_256 _ _ hbd.1 hg.1 hg.2 (by omega))
      go_wp2
      go_round
      case rel => exact ⟨k + 1, by omega, by go_num, by rw [hgk.out, IntWalk.wrap64_in _ ⟨by omega, by omega⟩, hor.out]⟩
      case measure => simp [intOf]; omega
    · go_wp2
      go_ret2
      have hk6 : k = 6 := by have := HS.out; omega
      subst hk6
      exact ⟨by rw [hpr.out]; rfl, rfl⟩

set_option maxHeartbeats 400000 in
theorem of_any (s : ByteArray) (w : World) (hs : s.size ≤ maxLen) :
    Calls TryQ.prog 72 #[.string s] w fun e w' => e = .returned (.tuple #[.int .i64 (fr s).1, .int .i64 (fr s).2]) ∧ w = w' := by
  by_cases h1 : s.size < 6
  · have hpr : Hid (fr s = (0, 7)) := Lib.hid (by unfold fr; rw [if_pos h1])
    go_enter TryQ.func72, Try.ntmps72
    go_wp2_with (go_at_call 81; refine (len_7 _ _ _ hs (by omega)).mono ?_; rintro e w' ⟨rfl, rfl⟩)
    go_ret2
    exact ⟨by rw [hpr.out]; rfl, rfl⟩
  · by_cases h2 : 6 < s.size
    · have hpr : Hid (fr s = (0, 8)) := Lib.hid (by unfold fr; rw [if_neg h1, if_pos h2])
      go_enter TryQ.func72, Try.ntmps72
      go_wp2_with (go_at_call 81; refine (len_8 _ _ _ hs (by omega)).mono ?_; rintro e w' ⟨rfl, rfl⟩)
      go_ret2
      exact ⟨by rw [hpr.out]; rfl, rfl⟩
    · exact of_6 s w (by omega)
end Go.Proofs.Ytlgfogllkoabpaa.QMacP

/-
  Contracts of the document's own answers of layer 1 (package footwayref01), and of the statements' alive.
-/
namespace Go.Proofs.Ytlgfogllkoabpaa.QMacP
open Go.RowKit
set_option linter.unusedVariables false
set_option maxRecDepth 100000

theorem str_add (xs ys : List Int) (w : World) (h : xs.length + ys.length ≤ 1000) : (Op.stringOp .add (strOfNums xs) (strOfNums ys)).run TryQ.prog w = .ok (.string (strOfNums (xs ++ ys))) w := by
  rw [run_string_add_sum _ _ _ (by rw [strOfNums_size, strOfNums_size]; omega)]
  simp [strOfNums, ByteArray.mk_append_mk]
theorem str_one (w : World) (n : Int) : (convert 36 9 (.slice (some ⟨w.heap.size, 0, none⟩) 1 1)).run TryQ.prog (w.alloc (.cells #[.int .u8 n] 5)) = .ok (.string (strOfNums [n])) (w.alloc (.cells #[.int .u8 n] 5)) :=
  run_convert_bytes_arg _ 36 5 TryQ.underlying36 TryQ.underlying5 w.heap.size 0 1 1 [n] rfl (by
    intro i hi
    match i, hi with
    | 0, _ => go_simp) 9 TryQ.underlying9

set_option maxHeartbeats 400000 in
theorem ref_right_yes (a : Int) (w : World) (h0 : 0 ≤ a) (h1 : a < 281474976710656) :
    Calls TryQ.prog 74 #[.int .i64 a] w fun e w' => e = .returned (.bool true) ∧ w = w' := by
  have h2 : decide (a < 281474976710656) = true := by simp; omega
  go_enter TryQ.func74, Try.ntmps74
  go_wp2
  go_ret
  exact ⟨rfl, rfl⟩

set_option maxHeartbeats 400000 in
theorem ref_right_no (a : Int) (w : World) (h : a < 0 ∨ 281474976710656 ≤ a) :
    Calls TryQ.prog 74 #[.int .i64 a] w fun e w' => e = .returned (.bool false) ∧ w = w' := by
  by_cases h0 : 0 ≤ a
  · have h2 : decide (a < 281474976710656) = false := by simp only [decide_eq_false_iff_not]; omega
    clear h
    go_enter TryQ.func74, Try.ntmps74
    go_wp2
    go_ret
    exact ⟨rfl, rfl⟩
  · clear h
    have h2 : decide (0 ≤ a) = false := by simpa using h0
    go_enter TryQ.func74, Try.ntmps74
    go_wp2
    go_ret
    exact ⟨rfl, rfl⟩

theorem bAt0 (a : Int) : bAt a 0 = a / 1099511627776 % 256 := rfl
theorem class_eq (a : Int) (h0 : 0 ≤ a) : classI a = if (a / 16 == 103282638848) = true then 2 else if (a / 1099511627776 % 2 == 1) = true then 1 else 0 := by
  have e1 : resB a = (a / 16 == 103282638848) := by
    unfold resB; rw [Bool.eq_iff_iff]; simp; omega
  have e2 : grpB a = (a / 1099511627776 % 2 == 1) := by
    unfold grpB; rw [bAt0, Bool.eq_iff_iff]; simp only [beq_iff_eq]; omega
  unfold classI; rw [e1, e2]

set_option maxHeartbeats 400000 in
theorem ref_class (a : Int) (w : World) (h0 : 0 ≤ a) (h1 : a < 281474976710656) :
    Calls TryQ.prog 75 #[.int .i64 a] w fun e w' => e = .returned (.int .i64 (classI a)) ∧ w = w' := by
  rw [class_eq a h0]
  by_cases k1 : (a / 16 == 103282638848) = true
  · rw [if_pos k1]
    go_enter TryQ.func75, Try.ntmps75
    go_wp2
    go_ret
    exact ⟨rfl, rfl⟩
  · rw [if_neg k1]
    replace k1 : (a / 16 == 103282638848) = false := by simpa using k1
    by_cases k2 : (a / 1099511627776 % 2 == 1) = true
    · rw [if_pos k2]
      go_enter TryQ.func75, Try.ntmps75
      go_wp2
      go_ret
      exact ⟨rfl, rfl⟩
    · rw [if_neg k2]
      replace k2 : (a / 1099511627776 % 2 == 1) = false := by simpa using k2
      go_enter TryQ.func75, Try.ntmps75
      go_wp2
      go_ret
      exact ⟨rfl, rfl⟩

def lowNums (a : Int) : Nat → List Int
  | 0 => []
  | k + 1 => (a / 256 ^ k % 256) :: lowNums a k
theorem lowNums_len (a : Int) (k : Nat) : (lowNums a k).length = k := by induction k with
  | zero => rfl
  | succ k ih => simp [lowNums, ih]
theorem lowNums_6 (a : Int) : lowNums a 6 = byteNums a := rfl
theorem div_step (a : Int) (k : Nat) : a / 256 ^ k / 256 = a / 256 ^ (k + 1) := by
  rw [Int.pow_succ, Int.ediv_ediv_of_nonneg]; exact Int.pow_nonneg (by decide)

set_option maxHeartbeats 400000 in
theorem ref_bytes (a : Int) (w : World) (h0 : 0 ≤ a) (h1 : a < 281474976710656) :
    Calls TryQ.prog 49 #[.int .i64 a] w fun e w' => e = .returned (.string (strOfNums (byteNums a))) ∧ Below w.heap.size w w' := by
  go_enter TryQ.func49, Try.ntmps49
  go_wp2
  go_loopw [0, 3, 4] (fun x out i wr => ∃ k : Nat, k ≤ 6 ∧ x = .int .i64 (a / 256 ^ k) ∧ out = .string (strOfNums (lowNums a k)) ∧ i = .int .i64 k ∧ Below w.heap.size w wr) (fun _ _ i _ => 6 - (intOf i).toNat)
  case atStart => exact ⟨0, by omega, by simp, rfl, rfl, Below.refl _ _⟩
  case round =>
    obtain ⟨k, hk, rfl, rfl, rfl, hbl⟩ := hrel
    by_cases hlt : k < 6
    · have g0 : 0 ≤ a / 256 ^ k := Int.ediv_nonneg h0 (Int.pow_nonneg (by decide))
      have g1 : a / 256 ^ k ≤ a := Int.ediv_le_self _ h0
      have hds := Lib.hid (div_step a k)
      have hln : Hid (lowNums a (k + 1) = (a / 256 ^ k % 256) :: lowNums a k) := Lib.hid rfl
      have hle := Lib.hid (lowNums_len a k)
      generalize a / 256 ^ k = x at *
      generalize lowNums a k = ys at *
      have hone := str_one wr (x % 256)
      have hadd := str_add [x % 256] ys (wr.alloc (.cells #[.int .u8 (x % 256)] 5)) (by rw [hle.out]; simp; try omega)
      go_wp2
      go_roundw
      case rel => exact ⟨k + 1, by omega, by rw [hds.out], by rw [hln.out], by go_num, hbl.alloc hbl.size _⟩
      case measure => simp [intOf]; omega
    · go_wp2
      go_ret
      have hk6 : k = 6 := by omega
      subst hk6
      exact ⟨by rw [lowNums_6]; rfl, hbl⟩

theorem index_at (s : ByteArray) (k : Nat) (h : k < s.size) (w : World) : (Instr.index 9 (.string s) (.int .i64 k)).run TryQ.prog w = .ok (.int .u8 (gb s k)) w := by
  have hg := Lib.hid (get_gb s k h)
  go_simp
  rw [hg.out]
theorem gb_str (xs : List Int) (k : Nat) (h : k < xs.length) (hb : ∀ x ∈ xs, 0 ≤ x ∧ x < 256) : gb (strOfNums xs) k = xs.getD k 0 := by
  unfold gb
  rw [strOfNums_data, List.getD_eq_getElem?_getD, List.getElem?_map, List.getD_eq_getElem?_getD, List.getElem?_eq_getElem h]
  have := hb _ (List.getElem_mem h)
  simp only [Option.map_some, Option.getD_some]
  rw [UInt8.toNat_ofNat']
  omega
theorem byteNums_bd (a : Int) : ∀ x ∈ byteNums a, 0 ≤ x ∧ x < 256 := by
  intro x hx
  simp only [byteNums, List.mem_cons, List.not_mem_nil, or_false] at hx
  rcases hx with rfl | rfl | rfl | rfl | rfl | rfl <;> exact bAt_bd a _
theorem gb_bytes (a : Int) (k : Nat) (h : k < 6) : gb (strOfNums (byteNums a)) k = bAt a k := by
  rw [gb_str _ _ (by simpa [byteNums] using h) (byteNums_bd a)]
  obtain rfl | rfl | rfl | rfl | rfl | rfl : k = 0 ∨ k = 1 ∨ k = 2 ∨ k = 3 ∨ k = 4 ∨ k = 5 := by omega
  all_goals rfl
theorem byte_at (a : Int) (k : Nat) (h : k < 6) (w : World) : (Instr.index 9 (.string (strOfNums (byteNums a))) (.int .i64 k)).run TryQ.prog w = .ok (.int .u8 (bAt a k)) w := by
  rw [index_at _ _ (by rw [strOfNums_size]; simpa [byteNums] using h), gb_bytes a k h]

set_option maxHeartbeats 400000 in
theorem ref_of (s : ByteArray) (w : World) (hs : s.size = 6) :
    Calls TryQ.prog 47 #[.string s] w fun e w' => e = .returned (.int .i64 (ofTo (gb s) 6)) ∧ w = w' := by
  have HS := Lib.hid hs
  have hs1 : s.size ≤ 6 := by omega
  clear hs
  go_enter TryQ.func47, Try.ntmps47
  go_wp2
  go_loop [3, 4] (fun t i => ∃ k : Nat, k ≤ s.size ∧ i = .int .i64 k ∧ t = .int .i64 (ofTo (gb s) k)) (fun _ i => s.size - (intOf i).toNat)
  case atStart => exact ⟨0, Nat.zero_le _, rfl, rfl⟩
  case round =>
    obtain ⟨k, hk, rfl, rfl⟩ := hrel
    by_cases hlt : k < s.size
    · have hbd := ofTo_bd s k
      have hk6 : k < 6 := by omega
      have hpl := pow_le k hk6
      have hg := gb_bd s k
      have hix := index_at s k hlt
      have hof : Hid (ofTo (gb s) (k + 1) = 256 * ofTo (gb s) k + gb s k) := Lib.hid rfl
      generalize ofTo (gb s) k = x at *
      generalize gb s k = y at *
      have hx : x ≤ 1099511627776 := by omega
      clear hpl
      go_wp2
      go_round
      case rel => exact ⟨k + 1, by omega, by go_num, by rw [hof.out]⟩
      case measure => simp [intOf]; omega
    · go_wp2
      go_ret
      have hk6 : k = 6 := by have := HS.out; omega
      subst hk6
      exact ⟨rfl, rfl⟩

theorem wrap_u8 (n : Int) (h : 0 ≤ n ∧ n < 256) : IntKind.u8.wrap n = n := IntWalk.u8_in n ⟨h.1, by omega⟩

end Go.Proofs.Ytlgfogllkoabpaa.QMacP

/-
  Plain facts of layer 1: what is told is read as it was; the order of bytes and of texts.
-/
namespace Go.Proofs.Ytlgfogllkoabpaa.QMacP
open Go.RowKit
set_option linter.unusedVariables false
set_option maxRecDepth 100000

theorem bAt1 (a : Int) : bAt a 1 = a / 4294967296 % 256 := rfl
theorem bAt2 (a : Int) : bAt a 2 = a / 16777216 % 256 := rfl
theorem bAt3 (a : Int) : bAt a 3 = a / 65536 % 256 := rfl
theorem bAt4 (a : Int) : bAt a 4 = a / 256 % 256 := rfl
theorem bAt5 (a : Int) : bAt a 5 = a % 256 := by show a / 1 % 256 = _; rw [Int.ediv_one]
theorem horner (a : Int) (h0 : 0 ≤ a) (h1 : a < 281474976710656) :
    256 * (256 * (256 * (256 * (256 * (256 * 0 + bAt a 0) + bAt a 1) + bAt a 2) + bAt a 3) + bAt a 4) + bAt a 5 = a := by
  rw [bAt0, bAt1, bAt2, bAt3, bAt4, bAt5]; omega

/-! ### bytes are read as they were -/
theorem byteNums_len (a : Int) : (byteNums a).length = 6 := rfl
theorem fr_bytes (a : Int) (h0 : 0 ≤ a) (h1 : a < 281474976710656) : fr (strOfNums (byteNums a)) = (a, 0) := by
  unfold fr
  rw [strOfNums_size, byteNums_len, if_neg (by omega), if_neg (by omega)]
  have e : ofTo (gb (strOfNums (byteNums a))) 6 = 256 * (256 * (256 * (256 * (256 * (256 * 0 + bAt a 0) + bAt a 1) + bAt a 2) + bAt a 3) + bAt a 4) + bAt a 5 := by
    simp only [ofTo]
    rw [gb_bytes a 0 (by omega), gb_bytes a 1 (by omega), gb_bytes a 2 (by omega), gb_bytes a 3 (by omega), gb_bytes a 4 (by omega), gb_bytes a 5 (by omega)]
    rfl
  rw [e, horner a h0 h1]

theorem str_ext (t : ByteArray) (xs : List Int) (hl : xs.length = t.size) (hx : ∀ k, k < t.size → gb t k = xs.getD k 0) : strOfNums xs = t := by
  refine WideShapes.bytes_inj ?_
  rw [strOfNums_data]
  refine List.ext_getElem (by simpa using hl) fun k h1 h2 => ?_
  have hk : k < t.size := by simpa using h2
  have hk' : k < xs.length := by omega
  have e := hx k hk
  rw [← get_gb t k hk, List.getD_eq_getElem?_getD, List.getElem?_eq_getElem hk', Option.getD_some] at e
  rw [List.getElem_map, ← e]
  simp
  rfl
end Go.Proofs.Ytlgfogllkoabpaa.QMacP
