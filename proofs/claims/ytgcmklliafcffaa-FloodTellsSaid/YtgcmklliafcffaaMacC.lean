/-
  Contract of mac.Of.
-/
import Derived.Test.YtgcmklliafcffaaMacA
import Derived.Laws.RangeAny
import Derived.IntWalk
namespace Go.Proofs.Ytgcmklliafcffaa.MacP
open Go.RowKit
set_option linter.unusedVariables false
set_option maxRecDepth 100000

def gb (s : ByteArray) (i : Nat) : Int := (s.data.toList.getD i 0).toNat
theorem bits_or_i64_nat (a b : Nat) (ha : a < 9223372036854775808) (hb : b < 9223372036854775808) : bits .or .i64 (a : Int) (b : Int) = ((a ||| b : Nat) : Int) := by
  have hx : a ||| b < 2 ^ 63 := Nat.or_lt_two_pow (by omega) (by omega)
  have h1 : (BitVec.ofInt 64 (a : Int)).toNat = a := by
    rw [BitVec.ofInt_natCast, BitVec.toNat_ofNat]; exact Nat.mod_eq_of_lt (by omega)
  have h2 : (BitVec.ofInt 64 (b : Int)).toNat = b := by
    rw [BitVec.ofInt_natCast, BitVec.toNat_ofNat]; exact Nat.mod_eq_of_lt (by omega)
  show IntKind.i64.wrap ((BitVec.ofInt 64 (a : Int) ||| BitVec.ofInt 64 (b : Int)).toNat : Int) = _
  rw [BitVec.toNat_or, h1, h2, IntKind.wrap_i64]
  omega
/-- x shifted by k bits, and y in these bits. -/
theorem or_add (x y : Int) (k : Nat) (hx : 0 ≤ x) (hy : 0 ≤ y) (hk : y < 2 ^ k) (hb : x * 2 ^ k < 9223372036854775808) (hyb : y < 9223372036854775808) : bits .or .i64 (x * 2 ^ k) y = x * 2 ^ k + y := by
  obtain ⟨a, rfl⟩ := Int.eq_ofNat_of_zero_le hx
  obtain ⟨b, rfl⟩ := Int.eq_ofNat_of_zero_le hy
  have e : ((a : Int) * 2 ^ k) = ((a * 2 ^ k : Nat) : Int) := by push_cast; rfl
  have hk' : b < 2 ^ k := by have : ((b : Nat) : Int) < ((2 ^ k : Nat) : Int) := by push_cast; exact hk
                             omega
  rw [e] at hb ⊢
  rw [bits_or_i64_nat _ _ (by omega) (by omega)]
  rw [← Nat.shiftLeft_eq, Nat.shiftLeft_add_eq_or_of_lt hk' a |>.symm]
  push_cast; rfl
theorem or_16 (x y : Int) (hx : 0 ≤ x) (hy : 0 ≤ y) (hk : y < 16) (hb : x < 281474976710656) : bits .or .i64 (x * 16) y = 16 * x + y := by
  have := or_add x y 4 hx hy (by omega) (by omega) (by omega)
  simp only [show (2 : Int) ^ 4 = 16 from rfl] at this
  rw [this]; omega
theorem or_256 (x y : Int) (hx : 0 ≤ x) (hy : 0 ≤ y) (hk : y < 256) (hb : x < 281474976710656) : bits .or .i64 (x * 256) y = 256 * x + y := by
  have := or_add x y 8 hx hy (by omega) (by omega) (by omega)
  simp only [show (2 : Int) ^ 8 = 256 from rfl] at this
  rw [this]; omega

theorem get_gb (s : ByteArray) (i : Nat) (h : i < s.size) : ((s[i]'h).toNat : Int) = gb s i := by
  have h' : i < s.data.toList.length := by simpa using h
  unfold gb
  rw [List.getD_eq_getElem?_getD, List.getElem?_eq_getElem h']
  simp; rfl
/-- The number of six bytes, the highest first. -/
def ofTo (f : Nat → Int) : Nat → Int
  | 0 => 0
  | k + 1 => 256 * ofTo f k + f k
theorem gb_bd (s : ByteArray) (i : Nat) : 0 ≤ gb s i ∧ gb s i < 256 := by
  unfold gb
  have := (s.data.toList.getD i 0).toNat_lt
  omega
theorem ofTo_bd (s : ByteArray) (k : Nat) : 0 ≤ ofTo (gb s) k ∧ ofTo (gb s) k < 256 ^ k := by
  induction k with
  | zero => exact ⟨by simp [ofTo], by simp [ofTo]⟩
  | succ k ih =>
    have := gb_bd s k
    rw [ofTo, Int.pow_succ]
    omega
/-- What Of tells. -/
def fr (s : ByteArray) : Int × Int := if s.size < 6 then (0, 7) else if 6 < s.size then (0, 8) else (ofTo (gb s) 6, 0)
theorem pow_le (k : Nat) (h : k < 6) : (256 : Int) ^ k ≤ 1099511627776 := by
  obtain h | h | h | h | h | h : k = 0 ∨ k = 1 ∨ k = 2 ∨ k = 3 ∨ k = 4 ∨ k = 5 := by omega
  all_goals (subst h; decide)

end Go.Proofs.Ytgcmklliafcffaa.MacP
