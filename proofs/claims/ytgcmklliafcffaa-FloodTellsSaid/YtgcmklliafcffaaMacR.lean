/-
  Contracts of the document's own answers of layer 1 (package footwayref01), and of the statements' alive.
-/
import Derived.Test.YtgcmklliafcffaaMacB
import Derived.Test.YtgcmklliafcffaaMacC
import Derived.Deep.RegionWith
import Derived.Deep.RegionHeld3
import Derived.Laws.Concat
namespace Go.Proofs.Ytgcmklliafcffaa.MacP
open Go.RowKit
set_option linter.unusedVariables false
set_option maxRecDepth 100000

theorem str_add (xs ys : List Int) (w : World) (h : xs.length + ys.length ≤ 1000) : (Op.stringOp .add (strOfNums xs) (strOfNums ys)).run Try.prog w = .ok (.string (strOfNums (xs ++ ys))) w := by
  rw [run_string_add_sum _ _ _ (by rw [strOfNums_size, strOfNums_size]; omega)]
  simp [strOfNums, ByteArray.mk_append_mk]
set_option maxHeartbeats 400000 in
theorem ref_right_yes (a : Int) (w : World) (h0 : 0 ≤ a) (h1 : a < 281474976710656) :
    Calls Try.prog 74 #[.int .i64 a] w fun e w' => e = .returned (.bool true) ∧ w = w' := by
  have h2 : decide (a < 281474976710656) = true := by simp; omega
  go_enter Try.func74, Try.ntmps74
  go_wp2
  go_ret
  exact ⟨rfl, rfl⟩

set_option maxHeartbeats 400000 in
theorem ref_right_no (a : Int) (w : World) (h : a < 0 ∨ 281474976710656 ≤ a) :
    Calls Try.prog 74 #[.int .i64 a] w fun e w' => e = .returned (.bool false) ∧ w = w' := by
  by_cases h0 : 0 ≤ a
  · have h2 : decide (a < 281474976710656) = false := by simp only [decide_eq_false_iff_not]; omega
    clear h
    go_enter Try.func74, Try.ntmps74
    go_wp2
    go_ret
    exact ⟨rfl, rfl⟩
  · clear h
    have h2 : decide (0 ≤ a) = false := by simpa using h0
    go_enter Try.func74, Try.ntmps74
    go_wp2
    go_ret
    exact ⟨rfl, rfl⟩

theorem bAt0 (a : Int) : bAt a 0 = a / 1099511627776 % 256 := rfl
theorem class_eq (a : Int) (h0 : 0 ≤ a) : classI a = if (a / 16 == 103282638848) = true then 2 else if (a / 1099511627776 % 2 == 1) = true then 1 else 0 := by
  have e1 : resB a = (a / 16 == 103282638848) := by
    unfold resB; rw [Bool.eq_iff_iff]; simp; omega
  have e2 : grpB a = (a / 1099511627776 % 2 == 1) := by
    unfold grpB; rw [bAt0, Bool.eq_iff_iff]; simp only [beq_iff_eq]; omega
  unfold classI; rw [e1, e2]

set_option maxHeartbeats 400000 in
theorem ref_class (a : Int) (w : World) (h0 : 0 ≤ a) (h1 : a < 281474976710656) :
    Calls Try.prog 75 #[.int .i64 a] w fun e w' => e = .returned (.int .i64 (classI a)) ∧ w = w' := by
  rw [class_eq a h0]
  by_cases k1 : (a / 16 == 103282638848) = true
  · rw [if_pos k1]
    go_enter Try.func75, Try.ntmps75
    go_wp2
    go_ret
    exact ⟨rfl, rfl⟩
  · rw [if_neg k1]
    replace k1 : (a / 16 == 103282638848) = false := by simpa using k1
    by_cases k2 : (a / 1099511627776 % 2 == 1) = true
    · rw [if_pos k2]
      go_enter Try.func75, Try.ntmps75
      go_wp2
      go_ret
      exact ⟨rfl, rfl⟩
    · rw [if_neg k2]
      replace k2 : (a / 1099511627776 % 2 == 1) = false := by simpa using k2
      go_enter Try.func75, Try.ntmps75
      go_wp2
      go_ret
      exact ⟨rfl, rfl⟩

def lowNums (a : Int) : Nat → List Int
  | 0 => []
  | k + 1 => (a / 256 ^ k % 256) :: lowNums a k
theorem lowNums_len (a : Int) (k : Nat) : (lowNums a k).length = k := by induction k with
  | zero => rfl
  | succ k ih => simp [lowNums, ih]
theorem lowNums_6 (a : Int) : lowNums a 6 = byteNums a := rfl
theorem div_step (a : Int) (k : Nat) : a / 256 ^ k / 256 = a / 256 ^ (k + 1) := by
  rw [Int.pow_succ, Int.ediv_ediv_of_nonneg]; exact Int.pow_nonneg (by decide)

theorem index_at (s : ByteArray) (k : Nat) (h : k < s.size) (w : World) : (Instr.index 9 (.string s) (.int .i64 k)).run Try.prog w = .ok (.int .u8 (gb s k)) w := by
  have hg := Lib.hid (get_gb s k h)
  go_simp
  rw [hg.out]
theorem gb_str (xs : List Int) (k : Nat) (h : k < xs.length) (hb : ∀ x ∈ xs, 0 ≤ x ∧ x < 256) : gb (strOfNums xs) k = xs.getD k 0 := by
  unfold gb
  rw [strOfNums_data, List.getD_eq_getElem?_getD, List.getElem?_map, List.getD_eq_getElem?_getD, List.getElem?_eq_getElem h]
  have := hb _ (List.getElem_mem h)
  simp only [Option.map_some, Option.getD_some]
  rw [UInt8.toNat_ofNat']
  omega
theorem byteNums_bd (a : Int) : ∀ x ∈ byteNums a, 0 ≤ x ∧ x < 256 := by
  intro x hx
  simp only [byteNums, List.mem_cons, List.not_mem_nil, or_false] at hx
  rcases hx with rfl | rfl | rfl | rfl | rfl | rfl <;> exact bAt_bd a _
theorem gb_bytes (a : Int) (k : Nat) (h : k < 6) : gb (strOfNums (byteNums a)) k = bAt a k := by
  rw [gb_str _ _ (by simpa [byteNums] using h) (byteNums_bd a)]
  obtain rfl | rfl | rfl | rfl | rfl | rfl : k = 0 ∨ k = 1 ∨ k = 2 ∨ k = 3 ∨ k = 4 ∨ k = 5 := by omega
  all_goals rfl
theorem byte_at (a : Int) (k : Nat) (h : k < 6) (w : World) : (Instr.index 9 (.string (strOfNums (byteNums a))) (.int .i64 k)).run Try.prog w = .ok (.int .u8 (bAt a k)) w := by
  rw [index_at _ _ (by rw [strOfNums_size]; simpa [byteNums] using h), gb_bytes a k h]

theorem wrap_u8 (n : Int) (h : 0 ≤ n ∧ n < 256) : IntKind.u8.wrap n = n := IntWalk.u8_in n ⟨h.1, by omega⟩

end Go.Proofs.Ytgcmklliafcffaa.MacP
