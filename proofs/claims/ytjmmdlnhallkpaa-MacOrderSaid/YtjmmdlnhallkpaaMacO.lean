/-
  The order of bytes and of texts is that of addresses.
-/
import Derived.Test.YtjmmdlnhallkpaaMacM
namespace Go.Proofs.Ytjmmdlnhallkpaa.MacP
open Go.RowKit
set_option linter.unusedVariables false

def lexL : List Int → List Int → Bool
  | _, [] => false
  | [], _ :: _ => true
  | a :: x, b :: y => decide (a < b) || (a == b && lexL x y)
def numL (B : Int) : List Int → Int
  | [] => 0
  | a :: x => a * B ^ x.length + numL B x
theorem u8_lt (a b : Int) (ha : 0 ≤ a ∧ a < 256) (hb : 0 ≤ b ∧ b < 256) : decide (UInt8.ofNat a.toNat < UInt8.ofNat b.toNat) = decide (a < b) := by
  rw [decide_eq_decide, UInt8.lt_iff_toNat_lt, UInt8.toNat_ofNat', UInt8.toNat_ofNat']
  omega
theorem u8_eq (a b : Int) (ha : 0 ≤ a ∧ a < 256) (hb : 0 ≤ b ∧ b < 256) : (UInt8.ofNat a.toNat == UInt8.ofNat b.toNat) = (a == b) := by
  rw [Bool.eq_iff_iff, beq_iff_eq, beq_iff_eq, ← UInt8.toNat_inj, UInt8.toNat_ofNat', UInt8.toNat_ofNat']
  omega
theorem bytesLess_lex : ∀ xs ys : List Int, (∀ x ∈ xs, 0 ≤ x ∧ x < 256) → (∀ x ∈ ys, 0 ≤ x ∧ x < 256) → Op.bytesLess (xs.map fun n => UInt8.ofNat n.toNat) (ys.map fun n => UInt8.ofNat n.toNat) = lexL xs ys
  | xs, [], _, _ => by cases xs <;> rfl
  | [], _ :: _, _, _ => rfl
  | a :: x, b :: y, hx, hy => by
    rw [List.forall_mem_cons] at hx hy
    rw [List.map_cons, List.map_cons, Op.bytesLess, lexL, bytesLess_lex x y hx.2 hy.2, u8_lt a b hx.1 hy.1, u8_eq a b hx.1 hy.1]
theorem numL_bd (B : Int) (hB : 0 < B) : ∀ xs : List Int, (∀ x ∈ xs, 0 ≤ x ∧ x < B) → 0 ≤ numL B xs ∧ numL B xs < B ^ xs.length
  | [], _ => by simp [numL]
  | a :: x, h => by
    rw [List.forall_mem_cons] at h
    have ih := numL_bd B hB x h.2
    have hp : 0 < B ^ x.length := Int.pow_pos hB
    rw [numL, List.length_cons, Int.pow_succ]
    generalize B ^ x.length = p at *
    have h1 : 0 ≤ a * p := Int.mul_nonneg h.1.1 (by omega)
    have h2 : (a + 1) * p ≤ B * p := Int.mul_le_mul_of_nonneg_right (by omega) (by omega)
    rw [Int.add_mul] at h2
    rw [Int.mul_comm p B]
    omega
theorem lex_num (B : Int) (hB : 0 < B) : ∀ xs ys : List Int, xs.length = ys.length → (∀ x ∈ xs, 0 ≤ x ∧ x < B) → (∀ x ∈ ys, 0 ≤ x ∧ x < B) → lexL xs ys = decide (numL B xs < numL B ys)
  | [], [], _, _, _ => by simp [lexL, numL]
  | [], _ :: _, h, _, _ => by cases h
  | _ :: _, [], h, _, _ => by cases h
  | a :: x, b :: y, hl, hx, hy => by
    rw [List.forall_mem_cons] at hx hy
    have hl' : x.length = y.length := by simpa using hl
    have ih := lex_num B hB x y hl' hx.2 hy.2
    have bx := numL_bd B hB x hx.2
    have by' := numL_bd B hB y hy.2
    have hp : 0 < B ^ x.length := Int.pow_pos hB
    rw [lexL, ih, numL, numL, hl']
    rw [hl'] at bx hp
    generalize B ^ y.length = p at *
    rcases Int.lt_trichotomy a b with h | h | h
    · have h2 : (a + 1) * p ≤ b * p := Int.mul_le_mul_of_nonneg_right (by omega) (by omega)
      rw [Int.add_mul] at h2
      rw [decide_eq_true h, decide_eq_true (show a * p + numL B x < b * p + numL B y by omega)]; rfl
    · subst h
      rw [decide_eq_false (show ¬ a < a by omega), beq_self_eq_true, Bool.false_or, Bool.true_and, decide_eq_decide]
      omega
    · have h2 : (b + 1) * p ≤ a * p := Int.mul_le_mul_of_nonneg_right (by omega) (by omega)
      rw [Int.add_mul] at h2
      rw [decide_eq_false (show ¬ a < b by omega), (beq_eq_false_iff_ne).2 (show a ≠ b by omega), decide_eq_false (show ¬ (a * p + numL B x < b * p + numL B y) by omega)]; rfl
theorem bytes_num (a : Int) (h0 : 0 ≤ a) (h1 : a < 281474976710656) : numL 256 (byteNums a) = a := by
  have h := horner a h0 h1
  simp only [byteNums, numL, List.length_cons, List.length_nil, Nat.zero_add, Nat.reduceAdd, Int.reducePow]
  omega
theorem bytes_less (a b : Int) (a0 : 0 ≤ a) (a1 : a < 281474976710656) (b0 : 0 ≤ b) (b1 : b < 281474976710656) :
    Op.bytesLess (strOfNums (byteNums a)).toList (strOfNums (byteNums b)).toList = decide (a < b) := by
  rw [Lib.toList_data, Lib.toList_data, strOfNums_data, strOfNums_data, bytesLess_lex _ _ (byteNums_bd a) (byteNums_bd b), lex_num 256 (by decide) (byteNums a) (byteNums b) rfl (byteNums_bd a) (byteNums_bd b), bytes_num a a0 a1, bytes_num b b0 b1]
def nibs (a : Int) : List Int := [bAt a 0 / 16, bAt a 0 % 16, bAt a 1 / 16, bAt a 1 % 16, bAt a 2 / 16, bAt a 2 % 16, bAt a 3 / 16, bAt a 3 % 16, bAt a 4 / 16, bAt a 4 % 16, bAt a 5 / 16, bAt a 5 % 16]
theorem nibs_bd (a : Int) : ∀ x ∈ nibs a, 0 ≤ x ∧ x < 16 := by
  have hh : ∀ i, (0 ≤ bAt a i / 16 ∧ bAt a i / 16 < 16) ∧ (0 ≤ bAt a i % 16 ∧ bAt a i % 16 < 16) := fun i => by
    have hb := bAt_bd a i
    omega
  unfold nibs
  repeat' (rw [List.forall_mem_cons])
  exact ⟨(hh 0).1, (hh 0).2, (hh 1).1, (hh 1).2, (hh 2).1, (hh 2).2, (hh 3).1, (hh 3).2, (hh 4).1, (hh 4).2, (hh 5).1, (hh 5).2, fun x hx => by cases hx⟩
theorem nibs_num (a : Int) (h0 : 0 ≤ a) (h1 : a < 281474976710656) : numL 16 (nibs a) = a := by
  have h := horner a h0 h1
  have b0 := bAt_bd a 0; have b1 := bAt_bd a 1; have b2 := bAt_bd a 2; have b3 := bAt_bd a 3; have b4 := bAt_bd a 4; have b5 := bAt_bd a 5
  simp only [nibs, numL, List.length_cons, List.length_nil, Nat.zero_add, Nat.reduceAdd, Int.reducePow]
  omega
theorem lex_hex {us vs : List Int} (x y : Int) (xs ys : List Int) (x0 : 0 ≤ x) (x1 : x < 16) (y0 : 0 ≤ y) (y1 : y < 16) (h : lexL xs ys = lexL us vs) : lexL (hexd x :: xs) (hexd y :: ys) = lexL (x :: us) (y :: vs) := by
  have e1 : decide (hexd x < hexd y) = decide (x < y) := by
    rw [decide_eq_decide]; unfold hexd; split <;> split <;> omega
  have e2 : (hexd x == hexd y) = (x == y) := by
    rw [Bool.eq_iff_iff, beq_iff_eq, beq_iff_eq]; unfold hexd; split <;> split <;> omega
  rw [lexL, lexL, e1, e2, h]
theorem lex_sep {us vs : List Int} (xs ys : List Int) (h : lexL xs ys = lexL us vs) : lexL (58 :: xs) (58 :: ys) = lexL us vs := by rw [lexL, h]; simp
theorem text_lex (a b : Int) : lexL (textNums a) (textNums b) = lexL (nibs a) (nibs b) := by
  have ha : ∀ i, (0 ≤ bAt a i / 16 ∧ bAt a i / 16 < 16) ∧ (0 ≤ bAt a i % 16 ∧ bAt a i % 16 < 16) := fun i => by have hb := bAt_bd a i; omega
  have hb : ∀ i, (0 ≤ bAt b i / 16 ∧ bAt b i / 16 < 16) ∧ (0 ≤ bAt b i % 16 ∧ bAt b i % 16 < 16) := fun i => by have hb := bAt_bd b i; omega
  have H : ∀ i xs ys us vs, lexL xs ys = lexL us vs → lexL (hexd (bAt a i / 16) :: hexd (bAt a i % 16) :: xs) (hexd (bAt b i / 16) :: hexd (bAt b i % 16) :: ys) = lexL (bAt a i / 16 :: bAt a i % 16 :: us) (bAt b i / 16 :: bAt b i % 16 :: vs) := fun i xs ys us vs h =>
    lex_hex _ _ _ _ (ha i).1.1 (ha i).1.2 (hb i).1.1 (hb i).1.2 (lex_hex _ _ _ _ (ha i).2.1 (ha i).2.2 (hb i).2.1 (hb i).2.2 h)
  exact H 0 _ _ _ _ (lex_sep _ _ (H 1 _ _ _ _ (lex_sep _ _ (H 2 _ _ _ _ (lex_sep _ _ (H 3 _ _ _ _ (lex_sep _ _ (H 4 _ _ _ _ (lex_sep _ _ (H 5 [] [] [] [] rfl))))))))))
theorem text_less (a b : Int) (a0 : 0 ≤ a) (a1 : a < 281474976710656) (b0 : 0 ≤ b) (b1 : b < 281474976710656) :
    Op.bytesLess (strOfNums (textNums a)).toList (strOfNums (textNums b)).toList = decide (a < b) := by
  rw [Lib.toList_data, Lib.toList_data, strOfNums_data, strOfNums_data, bytesLess_lex _ _ (textNums_bd a) (textNums_bd b), text_lex, lex_num 16 (by decide) (nibs a) (nibs b) rfl (nibs_bd a) (nibs_bd b), nibs_num a a0 a1, nibs_num b b0 b1]
theorem text_same (a b : Int) (a0 : 0 ≤ a) (a1 : a < 281474976710656) (b0 : 0 ≤ b) (b1 : b < 281474976710656) :
    ((strOfNums (textNums a)).toList == (strOfNums (textNums b)).toList) = (a == b) := by
  rw [Bool.eq_iff_iff, beq_iff_eq, beq_iff_eq]
  constructor
  · intro h
    rw [Lib.toList_data, Lib.toList_data] at h
    have h2 := WideShapes.bytes_inj h
    have h3 := pr_text a a0 a1
    rw [h2, pr_text b b0 b1] at h3
    exact (congrArg Prod.fst h3).symm
  · rintro rfl; rfl
end Go.Proofs.Ytjmmdlnhallkpaa.MacP
