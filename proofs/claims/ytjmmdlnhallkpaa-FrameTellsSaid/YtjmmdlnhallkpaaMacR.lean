/-
  Contracts of the document's own answers of layer 1 (package footwayref01), and of the statements' alive.
-/
import Derived.Test.YtjmmdlnhallkpaaMacB
import Derived.Test.YtjmmdlnhallkpaaMacC
import Derived.Deep.RegionWith
import Derived.Deep.RegionHeld3
import Derived.Laws.Concat
namespace Go.Proofs.Ytjmmdlnhallkpaa.MacP
open Go.RowKit
set_option linter.unusedVariables false

theorem str_add (xs ys : List Int) (w : World) (h : xs.length + ys.length ≤ 1000) : (Op.stringOp .add (strOfNums xs) (strOfNums ys)).run Try.prog w = .ok (.string (strOfNums (xs ++ ys))) w := by
  rw [run_string_add_sum _ _ _ (by rw [strOfNums_size, strOfNums_size]; omega)]
  simp [strOfNums, ByteArray.mk_append_mk]
theorem str_one (w : World) (n : Int) : (convert 47 9 (.slice (some ⟨w.heap.size, 0, none⟩) 1 1)).run Try.prog (w.alloc (.cells #[.int .u8 n] 5)) = .ok (.string (strOfNums [n])) (w.alloc (.cells #[.int .u8 n] 5)) :=
  run_convert_bytes_arg _ 47 5 Try.underlying47 Try.underlying5 w.heap.size 0 1 1 [n] rfl (by
    intro i hi
    match i, hi with
    | 0, _ => go_simp) 9 Try.underlying9

set_option maxHeartbeats 400000 in
theorem ref_right_yes (a : Int) (w : World) (h0 : 0 ≤ a) (h1 : a < 281474976710656) :
    Calls Try.prog 14 #[.int .i64 a] w fun e w' => e = .returned (.bool true) ∧ w = w' := by
  have h2 : decide (a < 281474976710656) = true := by simp; omega
  go_enter Try.func14, Try.ntmps14
  go_wp2
  go_ret
  exact ⟨rfl, rfl⟩

set_option maxHeartbeats 400000 in
theorem ref_right_no (a : Int) (w : World) (h : a < 0 ∨ 281474976710656 ≤ a) :
    Calls Try.prog 14 #[.int .i64 a] w fun e w' => e = .returned (.bool false) ∧ w = w' := by
  by_cases h0 : 0 ≤ a
  · have h2 : decide (a < 281474976710656) = false := by simp only [decide_eq_false_iff_not]; omega
    clear h
    go_enter Try.func14, Try.ntmps14
    go_wp2
    go_ret
    exact ⟨rfl, rfl⟩
  · clear h
    have h2 : decide (0 ≤ a) = false := by simpa using h0
    go_enter Try.func14, Try.ntmps14
    go_wp2
    go_ret
    exact ⟨rfl, rfl⟩

theorem bAt0 (a : Int) : bAt a 0 = a / 1099511627776 % 256 := rfl
theorem class_eq (a : Int) (h0 : 0 ≤ a) : classI a = if (a / 16 == 103282638848) = true then 2 else if (a / 1099511627776 % 2 == 1) = true then 1 else 0 := by
  have e1 : resB a = (a / 16 == 103282638848) := by
    unfold resB; rw [Bool.eq_iff_iff]; simp; omega
  have e2 : grpB a = (a / 1099511627776 % 2 == 1) := by
    unfold grpB; rw [bAt0, Bool.eq_iff_iff]; simp only [beq_iff_eq]; omega
  unfold classI; rw [e1, e2]

set_option maxHeartbeats 400000 in
theorem ref_class (a : Int) (w : World) (h0 : 0 ≤ a) (h1 : a < 281474976710656) :
    Calls Try.prog 16 #[.int .i64 a] w fun e w' => e = .returned (.int .i64 (classI a)) ∧ w = w' := by
  rw [class_eq a h0]
  by_cases k1 : (a / 16 == 103282638848) = true
  · rw [if_pos k1]
    go_enter Try.func16, Try.ntmps16
    go_wp2
    go_ret
    exact ⟨rfl, rfl⟩
  · rw [if_neg k1]
    replace k1 : (a / 16 == 103282638848) = false := by simpa using k1
    by_cases k2 : (a / 1099511627776 % 2 == 1) = true
    · rw [if_pos k2]
      go_enter Try.func16, Try.ntmps16
      go_wp2
      go_ret
      exact ⟨rfl, rfl⟩
    · rw [if_neg k2]
      replace k2 : (a / 1099511627776 % 2 == 1) = false := by simpa using k2
      go_enter Try.func16, Try.ntmps16
      go_wp2
      go_ret
      exact ⟨rfl, rfl⟩

def lowNums (a : Int) : Nat → List Int
  | 0 => []
  | k + 1 => (a / 256 ^ k % 256) :: lowNums a k
theorem lowNums_len (a : Int) (k : Nat) : (lowNums a k).length = k := by induction k with
  | zero => rfl
  | succ k ih => simp [lowNums, ih]
theorem lowNums_6 (a : Int) : lowNums a 6 = byteNums a := rfl
theorem div_step (a : Int) (k : Nat) : a / 256 ^ k / 256 = a / 256 ^ (k + 1) := by
  rw [Int.pow_succ, Int.ediv_ediv_of_nonneg]; exact Int.pow_nonneg (by decide)

set_option maxHeartbeats 400000 in
theorem ref_bytes (a : Int) (w : World) (h0 : 0 ≤ a) (h1 : a < 281474976710656) :
    Calls Try.prog 17 #[.int .i64 a] w fun e w' => e = .returned (.string (strOfNums (byteNums a))) ∧ Below w.heap.size w w' := by
  go_enter Try.func17, Try.ntmps17
  go_wp2
  go_loopw [0, 3, 4] (fun x out i wr => ∃ k : Nat, k ≤ 6 ∧ x = .int .i64 (a / 256 ^ k) ∧ out = .string (strOfNums (lowNums a k)) ∧ i = .int .i64 k ∧ Below w.heap.size w wr) (fun _ _ i _ => 6 - (intOf i).toNat)
  case atStart => exact ⟨0, by omega, by simp, rfl, rfl, Below.refl _ _⟩
  case round =>
    obtain ⟨k, hk, rfl, rfl, rfl, hbl⟩ := hrel
    by_cases hlt : k < 6
    · have g0 : 0 ≤ a / 256 ^ k := Int.ediv_nonneg h0 (Int.pow_nonneg (by decide))
      have g1 : a / 256 ^ k ≤ a := Int.ediv_le_self _ h0
      have hds := Lib.hid (div_step a k)
      have hln : Hid (lowNums a (k + 1) = (a / 256 ^ k % 256) :: lowNums a k) := Lib.hid rfl
      have hle := Lib.hid (lowNums_len a k)
      generalize a / 256 ^ k = x at *
      generalize lowNums a k = ys at *
      have hone := str_one wr (x % 256)
      have hadd := str_add [x % 256] ys (wr.alloc (.cells #[.int .u8 (x % 256)] 5)) (by rw [hle.out]; simp; try omega)
      go_wp2
      go_roundw
      case rel => exact ⟨k + 1, by omega, by rw [hds.out], by rw [hln.out], by go_num, hbl.alloc hbl.size _⟩
      case measure => simp [intOf]; omega
    · go_wp2
      go_ret
      have hk6 : k = 6 := by omega
      subst hk6
      exact ⟨by rw [lowNums_6]; rfl, hbl⟩

set_option maxHeartbeats 400000 in
theorem ref_digit (n : Int) (w : World) (h0 : 0 ≤ n) (h1 : n < 16) :
    Calls Try.prog 36 #[.int .i64 n] w fun e w' => e = .returned (.string (strOfNums [hexd n])) ∧ Below w.heap.size w w' := by
  unfold hexd
  by_cases h : n < 10
  · rw [if_pos h]
    have hone := str_one w (48 + n)
    go_enter Try.func36, Try.ntmps36
    go_wp2
    go_ret
    exact ⟨rfl, (Below.refl _ _).alloc (Nat.le_refl _) _⟩
  · rw [if_neg h]
    have hone := str_one w (87 + n)
    go_enter Try.func36, Try.ntmps36
    go_wp2
    go_ret
    exact ⟨rfl, (Below.refl _ _).alloc (Nat.le_refl _) _⟩

def txt (a : Int) : Nat → List Int
  | 0 => []
  | k + 1 => (if k = 0 then txt a k else txt a k ++ [58]) ++ [hexd (bAt a k / 16)] ++ [hexd (bAt a k % 16)]
theorem txt_6 (a : Int) : txt a 6 = textNums a := by simp [txt, textNums]
theorem txt_len (a : Int) (k : Nat) : (txt a k).length ≤ 3 * k := by
  induction k with
  | zero => simp [txt]
  | succ k ih => rw [txt]; split <;> simp <;> omega
theorem txt_0 (a : Int) (k : Nat) (h : k = 0) : txt a (k + 1) = txt a k ++ [hexd (bAt a k / 16)] ++ [hexd (bAt a k % 16)] := by rw [txt, if_pos h]
theorem txt_s (a : Int) (k : Nat) (h : ¬ k = 0) : txt a (k + 1) = txt a k ++ [58] ++ [hexd (bAt a k / 16)] ++ [hexd (bAt a k % 16)] := by rw [txt, if_neg h]
theorem str_58 (xs : List Int) (w : World) (h : xs.length ≤ 900) : (Op.stringOp .add (strOfNums xs) ⟨#[58]⟩).run Try.prog w = .ok (.string (strOfNums (xs ++ [58]))) w :=
  str_add xs [58] w (by simp; omega)
theorem index_at (s : ByteArray) (k : Nat) (h : k < s.size) (w : World) : (Instr.index 9 (.string s) (.int .i64 k)).run Try.prog w = .ok (.int .u8 (gb s k)) w := by
  have hg := Lib.hid (get_gb s k h)
  go_simp
  rw [hg.out]
theorem gb_str (xs : List Int) (k : Nat) (h : k < xs.length) (hb : ∀ x ∈ xs, 0 ≤ x ∧ x < 256) : gb (strOfNums xs) k = xs.getD k 0 := by
  unfold gb
  rw [strOfNums_data, List.getD_eq_getElem?_getD, List.getElem?_map, List.getD_eq_getElem?_getD, List.getElem?_eq_getElem h]
  have := hb _ (List.getElem_mem h)
  simp only [Option.map_some, Option.getD_some]
  rw [UInt8.toNat_ofNat']
  omega
theorem byteNums_bd (a : Int) : ∀ x ∈ byteNums a, 0 ≤ x ∧ x < 256 := by
  intro x hx
  simp only [byteNums, List.mem_cons, List.not_mem_nil, or_false] at hx
  rcases hx with rfl | rfl | rfl | rfl | rfl | rfl <;> exact bAt_bd a _
theorem gb_bytes (a : Int) (k : Nat) (h : k < 6) : gb (strOfNums (byteNums a)) k = bAt a k := by
  rw [gb_str _ _ (by simpa [byteNums] using h) (byteNums_bd a)]
  obtain rfl | rfl | rfl | rfl | rfl | rfl : k = 0 ∨ k = 1 ∨ k = 2 ∨ k = 3 ∨ k = 4 ∨ k = 5 := by omega
  all_goals rfl
theorem byte_at (a : Int) (k : Nat) (h : k < 6) (w : World) : (Instr.index 9 (.string (strOfNums (byteNums a))) (.int .i64 k)).run Try.prog w = .ok (.int .u8 (bAt a k)) w := by
  rw [index_at _ _ (by rw [strOfNums_size]; simpa [byteNums] using h), gb_bytes a k h]

set_option maxHeartbeats 400000 in
theorem ref_of (s : ByteArray) (w : World) (hs : s.size = 6) :
    Calls Try.prog 22 #[.string s] w fun e w' => e = .returned (.int .i64 (ofTo (gb s) 6)) ∧ w = w' := by
  have HS := Lib.hid hs
  have hs1 : s.size ≤ 6 := by omega
  clear hs
  go_enter Try.func22, Try.ntmps22
  go_wp2
  go_loop [3, 4] (fun t i => ∃ k : Nat, k ≤ s.size ∧ i = .int .i64 k ∧ t = .int .i64 (ofTo (gb s) k)) (fun _ i => s.size - (intOf i).toNat)
  case atStart => exact ⟨0, Nat.zero_le _, rfl, rfl⟩
  case round =>
    obtain ⟨k, hk, rfl, rfl⟩ := hrel
    by_cases hlt : k < s.size
    · have hbd := ofTo_bd s k
      have hk6 : k < 6 := by omega
      have hpl := pow_le k hk6
      have hg := gb_bd s k
      have hix := index_at s k hlt
      have hof : Hid (ofTo (gb s) (k + 1) = 256 * ofTo (gb s) k + gb s k) := Lib.hid rfl
      generalize ofTo (gb s) k = x at *
      generalize gb s k = y at *
      have hx : x ≤ 1099511627776 := by omega
      clear hpl
      go_wp2
      go_round
      case rel => exact ⟨k + 1, by omega, by go_num, by rw [hof.out]⟩
      case measure => simp [intOf]; omega
    · go_wp2
      go_ret
      have hk6 : k = 6 := by have := HS.out; omega
      subst hk6
      exact ⟨rfl, rfl⟩

theorem wrap_u8 (n : Int) (h : 0 ≤ n ∧ n < 256) : IntKind.u8.wrap n = n := IntWalk.u8_in n ⟨h.1, by omega⟩

set_option maxHeartbeats 400000 in
theorem ref_value (c : Int) (w : World) (h0 : 0 ≤ c) (h1 : c < 256) :
    Calls Try.prog 39 #[.int .u8 c] w fun e w' => e = .returned (.int .i64 (pv c)) ∧ w = w' := by
  unfold pv
  by_cases a : 48 ≤ c
  · by_cases b : c ≤ 57
    · rw [if_pos ⟨a, b⟩]
      go_enter Try.func39, Try.ntmps39
      go_wp2
      go_ret
      exact ⟨rfl, rfl⟩
    · rw [if_neg (by omega)]
      have b' : decide (c ≤ 57) = false := by simpa using b
      by_cases d : 97 ≤ c
      · by_cases g : c ≤ 102
        · rw [if_pos ⟨d, g⟩]
          go_enter Try.func39, Try.ntmps39
          go_wp2
          go_ret
          exact ⟨rfl, rfl⟩
        · rw [if_neg (by omega)]
          have g' : decide (c ≤ 102) = false := by simpa using g
          go_enter Try.func39, Try.ntmps39
          go_wp2
          go_ret
          exact ⟨rfl, rfl⟩
      · rw [if_neg (by omega)]
        have d' : decide (97 ≤ c) = false := by simpa using d
        go_enter Try.func39, Try.ntmps39
        go_wp2
        go_ret
        exact ⟨rfl, rfl⟩
  · rw [if_neg (by omega), if_neg (by omega)]
    have a' : decide (48 ≤ c) = false := by simpa using a
    have d' : decide (97 ≤ c) = false := by simp only [decide_eq_false_iff_not]; omega
    go_enter Try.func39, Try.ntmps39
    go_wp2
    go_ret
    exact ⟨rfl, rfl⟩

set_option maxHeartbeats 1000000 in
theorem ref_parse_17 (s : ByteArray) (w : World) (hs : s.size = 17) :
    Calls Try.prog 21 #[.string s] w fun e w' => e = .returned (.tuple #[.int .i64 (pr s).1, .int .i64 (pr s).2]) ∧ w = w' := by
  have HS := Lib.hid hs
  have h1 : 17 ≤ s.size := by omega
  have h2 : s.size ≤ 17 := by omega
  clear hs
  go_enter Try.func21, Try.ntmps21
  go_wp2
  go_loop [4, 5] (fun t i => ∃ (pos : Nat) (acc : Int), pos ≤ 17 ∧ 0 ≤ acc ∧ acc < bnd pos ∧ i = .int .i64 pos ∧ t = .int .i64 acc ∧ pFrom (gb s) (17 - pos) pos acc = pFrom (gb s) 17 0 0)
    (fun _ i => 17 - (intOf i).toNat)
  case atStart => exact ⟨0, 0, by omega, by omega, by decide, rfl, rfl, rfl⟩
  case round =>
    obtain ⟨pos, acc, hp, ha0, ha1, rfl, rfl, hf⟩ := hrel
    have HF := Lib.hid hf
    clear hf
    by_cases hlt : pos < 17
    · have hix := index_at s pos (by omega)
      have hbl := bnd_le pos (by omega)
      have hg := gb_bd s pos
      by_cases hm : pos % 3 = 2
      · have hm1 : (((pos : Int) % 3) == 2) = true := by simp; omega
        by_cases hc : gb s pos = 58
        · have hst : Hid (pFrom (gb s) (17 - (pos + 1)) (pos + 1) acc = pFrom (gb s) 17 0 0) := by
            refine Lib.hid ?_
            rw [← HF.out, show 17 - pos = (17 - (pos + 1)) + 1 by omega, pFrom_cont (b := acc) _ _ _ _ (by rw [pStep, if_pos hm, if_pos hc])]
          have hr58 : (gb s pos != 58) = false := by rw [hc]; rfl
          have hb1 : acc < bnd (pos + 1) := by rw [(bnd_step pos hlt).1 hm]; exact ha1
          clear hc HF
          go_wp2
          go_round
          case rel => exact ⟨pos + 1, acc, by omega, ha0, hb1, by go_num, rfl, hst.out⟩
          case measure => simp [intOf]; omega
        · have hst : Hid (pFrom (gb s) 17 0 0 = none) := by
            refine Lib.hid ?_
            rw [← HF.out, show 17 - pos = (16 - pos) + 1 by omega, pFrom_stop _ _ _ _ (by rw [pStep, if_pos hm, if_neg hc])]
          have hr58 : (gb s pos != 58) = true := by simp only [bne_iff_ne]; exact hc
          clear hc
          go_wp2
          go_ret2
          refine ⟨?_, rfl⟩
          rw [pr_none s HS.out hst.out]; rfl
      · have hm1 : (((pos : Int) % 3) == 2) = false := by simp; omega
        by_cases hc : pv (gb s pos) < 0
        · have hst : Hid (pFrom (gb s) 17 0 0 = none) := by
            refine Lib.hid ?_
            rw [← HF.out, show 17 - pos = (16 - pos) + 1 by omega, pFrom_stop _ _ _ _ (by rw [pStep, if_neg hm, if_pos hc])]
          go_wp2_with (go_at_call 39; refine (ref_value _ _ hg.1 hg.2).mono ?_; rintro e w' ⟨rfl, rfl⟩)
          go_ret2
          refine ⟨?_, rfl⟩
          rw [pr_none s HS.out hst.out]; rfl
        · have hpb := pv_bd (gb s pos)
          have hps : pStep pos (gb s pos) acc = some (16 * acc + pv (gb s pos)) := by rw [pStep, if_neg hm, if_neg hc]
          have hst : Hid (pFrom (gb s) (17 - (pos + 1)) (pos + 1) (16 * acc + pv (gb s pos)) = pFrom (gb s) 17 0 0) := by
            refine Lib.hid ?_
            rw [← HF.out, show 17 - pos = (17 - (pos + 1)) + 1 by omega, pFrom_cont _ _ _ _ _ hps]
          obtain ⟨b0, b1⟩ := pStep_bd pos _ acc _ hlt ha0 ha1 hps
          have hup : acc < 281474976710656 := by omega
          clear hps HF
          go_wp2_with (go_at_call 39; refine (ref_value _ _ hg.1 hg.2).mono ?_; rintro e w' ⟨rfl, rfl⟩)
          go_round
          case rel => exact ⟨pos + 1, 16 * acc + pv (gb s pos), by omega, b0, b1, by go_num, rfl, hst.out⟩
          case measure => simp [intOf]; omega
    · go_wp2
      go_ret2
      refine ⟨?_, rfl⟩
      have hp : pos = 17 := by omega
      subst hp
      rw [pr_some s HS.out acc HF.out.symm]; rfl

set_option maxHeartbeats 400000 in
theorem ref_parse (s : ByteArray) (w : World) (hs : s.size ≤ maxLen) :
    Calls Try.prog 21 #[.string s] w fun e w' => e = .returned (.tuple #[.int .i64 (pr s).1, .int .i64 (pr s).2]) ∧ w = w' := by
  unfold maxLen at hs
  by_cases h1 : s.size < 17
  · have hpr : Hid (pr s = (0, 7)) := Lib.hid (by unfold pr; rw [if_pos h1])
    go_enter Try.func21, Try.ntmps21
    go_wp2
    go_ret2
    exact ⟨by rw [hpr.out]; rfl, rfl⟩
  · by_cases h2 : 17 < s.size
    · have hpr : Hid (pr s = (0, 8)) := Lib.hid (by unfold pr; rw [if_neg h1, if_pos h2])
      go_enter Try.func21, Try.ntmps21
      go_wp2
      go_ret2
      exact ⟨by rw [hpr.out]; rfl, rfl⟩
    · exact ref_parse_17 s w (by omega)
end Go.Proofs.Ytjmmdlnhallkpaa.MacP
