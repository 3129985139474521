/-
  The walk of MacOrder.
-/
import Derived.Test.YtjmmdlnhallkpaaMacWalkB
import Derived.Test.YtjmmdlnhallkpaaMacO
namespace Go.Proofs.Ytjmmdlnhallkpaa.MacP
open Go.RowKit
set_option linter.unusedVariables false

theorem xor_nat (a : Nat) : a ^^^ 1 = if a % 2 = 0 then a + 1 else a - 1 := by
  have h1 : (a ^^^ 1) / 2 = a / 2 := by rw [Nat.xor_div_two]; simp
  have h2 : (a ^^^ 1) % 2 = (a + 1) % 2 := by
    have := Nat.xor_mod_two_pow (a := a) (b := 1) (n := 1)
    rw [show (2 : Nat) ^ 1 = 2 from rfl] at this
    rw [this]
    rcases Nat.mod_two_eq_zero_or_one a with h | h <;> rw [h] <;> simp <;> omega
  split <;> omega
theorem bits_xor_i64_nat (a b : Nat) (ha : a < 9223372036854775808) (hb : b < 9223372036854775808) : bits .xor .i64 (a : Int) (b : Int) = ((a ^^^ b : Nat) : Int) := by
  have hx : a ^^^ b < 2 ^ 63 := Nat.xor_lt_two_pow (by omega) (by omega)
  have h1 : (BitVec.ofInt 64 (a : Int)).toNat = a := by
    rw [BitVec.ofInt_natCast, BitVec.toNat_ofNat]; exact Nat.mod_eq_of_lt (by omega)
  have h2 : (BitVec.ofInt 64 (b : Int)).toNat = b := by
    rw [BitVec.ofInt_natCast, BitVec.toNat_ofNat]; exact Nat.mod_eq_of_lt (by omega)
  show IntKind.i64.wrap ((BitVec.ofInt 64 (a : Int) ^^^ BitVec.ofInt 64 (b : Int)).toNat : Int) = _
  rw [BitVec.toNat_xor, h1, h2, IntKind.wrap_i64]
  omega
theorem xor_one (a : Int) (h0 : 0 ≤ a) (h1 : a < 281474976710656) : bits .xor .i64 a 1 = if a % 2 = 0 then a + 1 else a - 1 := by
  obtain ⟨n, rfl⟩ := Int.eq_ofNat_of_zero_le h0
  have := bits_xor_i64_nat n 1 (by omega) (by omega)
  rw [show ((1 : Nat) : Int) = 1 from rfl] at this
  rw [this, xor_nat]
  split <;> split <;> omega
theorem xor_bd (a : Int) (h0 : 0 ≤ a) (h1 : a < 281474976710656) : 0 ≤ bits .xor .i64 a 1 ∧ bits .xor .i64 a 1 < 281474976710656 := by
  rw [xor_one a h0 h1]; split <;> omega
theorem xor_class (a : Int) (h0 : 0 ≤ a) (h1 : a < 281474976710656) : classI (bits .xor .i64 a 1) = classI a := by
  obtain ⟨x0, x1⟩ := xor_bd a h0 h1
  have hx := xor_one a h0 h1
  generalize bits .xor .i64 a 1 = x at *
  have hd : x / 2 = a / 2 := by rw [hx]; split <;> omega
  rw [class_eq x x0, class_eq a h0, show x / 16 = a / 16 by omega, show x / 1099511627776 = a / 1099511627776 by omega]

set_option maxHeartbeats 2000000 in
theorem macOrder_any (a b : Int) (wa : (Lit.int .i64 a).wf = true) (wb : (Lit.int .i64 b).wf = true) (w : World) :
    Calls Try.prog 6 #[.int .i64 a, .int .i64 b] w fun e w' => e = .returned (.bool true) ∧ Below w.heap.size w w' := by
  have HA := Lib.hid (mod48 a)
  have HB := Lib.hid (mod48 b)
  clear wa wb
  go_enter Try.func6, Try.ntmps6
  go_wp2_with fail
  generalize wrap64 ((IntKind.u64.wrap a).tmod 281474976710656) = x at *
  generalize wrap64 ((IntKind.u64.wrap b).tmod 281474976710656) = y at *
  obtain ⟨x0, x1⟩ := HA.out
  obtain ⟨y0, y1⟩ := HB.out
  have l1 := bytes_less x y x0 x1 y0 y1
  have l2 := text_less x y x0 x1 y0 y1
  have l3 := text_same x y x0 x1 y0 y1
  have XB := Lib.hid (xor_bd x x0 x1)
  have XC := Lib.hid (xor_class x x0 x1)
  refine (bytes_yes x _ x0 x1).mono ?_
  rintro e w1 ⟨rfl, hb1⟩
  go_wp2_with fail
  refine (bytes_yes y _ y0 y1).mono ?_
  rintro e w2 ⟨rfl, hb2⟩
  go_wp2_with fail
  refine (print_yes x _ x0 x1).mono ?_
  rintro e w3 ⟨rfl, hb3⟩
  go_wp2_with fail
  refine (print_yes y _ y0 y1).mono ?_
  rintro e w4 ⟨rfl, hb4⟩
  go_wp2_with fail
  refine (class_yes x _ x0 x1).mono ?_
  rintro e w' ⟨rfl, rfl⟩
  go_wp2_with fail
  refine (class_yes _ _ XB.out.1 XB.out.2).mono ?_
  rw [XC.out]
  rintro e w' ⟨rfl, rfl⟩
  go_wp2_with fail
  refine (alive_any _).mono ?_
  rintro e w5 ⟨rfl, hb5⟩
  go_wp2
  go_ret
  exact ⟨rfl, bt (bt (bt (bt hb1 hb2) hb3) hb4) hb5⟩
end Go.Proofs.Ytjmmdlnhallkpaa.MacP
