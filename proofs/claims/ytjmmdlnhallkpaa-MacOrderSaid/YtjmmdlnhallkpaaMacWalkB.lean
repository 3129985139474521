/-
  The walk of MacBack.
-/
import Derived.Test.YtjmmdlnhallkpaaMacWalks
import Derived.Test.YtjmmdlnhallkpaaMacM
namespace Go.Proofs.Ytjmmdlnhallkpaa.MacP
open Go.RowKit
set_option linter.unusedVariables false

/-- What the three classes say of the first byte and of the address. -/
structure Cls (b k : Int) : Prop where
  val : classI b = k
  uni : (k == 0) = (bAt b 0 % 2 == 0)
  res : (k == 2) = (decide (1652522221568 ≤ b) && decide (b < 1652522221584))
theorem cls_of (b : Int) (h0 : 0 ≤ b) (h1 : b < 281474976710656) : Cls b (classI b) := by
  have hb := bAt0 b
  have hbd := bAt_bd b 0
  refine ⟨rfl, ?_, ?_⟩
  · unfold classI resB grpB
    by_cases r : (decide (1652522221568 ≤ b) && decide (b ≤ 1652522221583)) = true
    · rw [if_pos r]
      simp only [Bool.and_eq_true, decide_eq_true_eq] at r
      have : bAt b 0 % 2 = 1 := by rw [hb]; omega
      rw [this]; rfl
    · rw [if_neg r]
      by_cases g : (bAt b 0 % 2 == 1) = true
      · rw [if_pos g]; rw [beq_iff_eq] at g; rw [g]
      · rw [if_neg g]
        have : bAt b 0 % 2 = 0 := by simp only [beq_iff_eq] at g; omega
        rw [this]
  · unfold classI resB grpB
    by_cases r : (decide (1652522221568 ≤ b) && decide (b ≤ 1652522221583)) = true
    · rw [if_pos r]
      simp only [Bool.and_eq_true, decide_eq_true_eq] at r
      rw [decide_eq_true r.1, decide_eq_true (show b < 1652522221584 by omega)]; rfl
    · rw [if_neg r]
      have e : (decide (1652522221568 ≤ b) && decide (b < 1652522221584)) = false := by
        simp only [Bool.and_eq_true, decide_eq_true_eq] at r
        simp only [Bool.and_eq_false_iff, decide_eq_false_iff_not]; omega
      rw [e]
      split <;> rfl
theorem mod48 (a : Int) : 0 ≤ wrap64 ((IntKind.u64.wrap a).tmod 281474976710656) ∧ wrap64 ((IntKind.u64.wrap a).tmod 281474976710656) < 281474976710656 := by
  have h : 0 ≤ IntKind.u64.wrap a := by rw [IntKind.wrap_u64]; omega
  rw [Int.tmod_eq_emod_of_nonneg h, IntWalk.wrap64_in _ ⟨by omega, by omega⟩]
  omega

theorem parse_ok (t : ByteArray) (d : Int) (w : World) (ht : t.size ≤ maxLen) (h1 : (pr t).1 = d) (h2 : (pr t).2 = 0) :
    Calls Try.prog 20 #[.string t] w fun e w' => e = .returned (.tuple #[.int .i64 d, .int .i64 0]) ∧ Below w.heap.size w w' :=
  (parse_any t w ht).mono fun e w' ⟨k1, k2⟩ => ⟨by rw [k1, h1, h2], k2⟩
theorem parse_text (b : Int) (w : World) (h0 : 0 ≤ b) (h1 : b < 281474976710656) :
    Calls Try.prog 20 #[.string (strOfNums (textNums b))] w fun e w' => e = .returned (.tuple #[.int .i64 b, .int .i64 0]) ∧ Below w.heap.size w w' :=
  parse_ok _ b w (by rw [strOfNums_size, textNums_len]; unfold maxLen; omega) (by rw [pr_text b h0 h1]) (by rw [pr_text b h0 h1])
theorem of_bytes (b : Int) (w : World) (h0 : 0 ≤ b) (h1 : b < 281474976710656) :
    Calls Try.prog 19 #[.string (strOfNums (byteNums b))] w fun e w' => e = .returned (.tuple #[.int .i64 b, .int .i64 0]) ∧ w = w' :=
  (of_any _ w (by rw [strOfNums_size, byteNums_len]; unfold maxLen; omega)).mono fun e w' ⟨k1, k2⟩ => ⟨by rw [k1, fr_bytes b h0 h1], k2⟩
theorem print_back (t : ByteArray) (d : Int) (w : World) (h0 : 0 ≤ d) (h1 : d < 281474976710656) (h : strOfNums (textNums d) = t) :
    Calls Try.prog 12 #[.int .i64 d] w fun e w' => e = .returned (.tuple #[.string t, .int .i64 0]) ∧ Below w.heap.size w w' :=
  (print_yes d w h0 h1).mono fun e w' ⟨k1, k2⟩ => ⟨by rw [k1, h], k2⟩
theorem parse_bad (t : ByteArray) (w : World) (ht : t.size ≤ maxLen) (h : ¬ (pr t).2 = 0) :
    Calls Try.prog 20 #[.string t] w fun e w' => e = .returned (.tuple #[.int .i64 0, .int .i64 (pr t).2]) ∧ Below w.heap.size w w' :=
  (parse_any t w ht).mono fun e w' ⟨k1, k2⟩ => ⟨by rw [k1, pr_not t h], k2⟩

set_option maxHeartbeats 4000000 in
theorem macBack_any (a : Int) (t : ByteArray) (wa : (Lit.int .i64 a).wf = true) (ht : t.size ≤ maxLen) (w : World) :
    Calls Try.prog 5 #[.int .i64 a, .string t] w fun e w' => e = .returned (.bool true) ∧ Below w.heap.size w w' := by
  have lt := extract_le t 30
  have hb := mod48 a
  clear wa
  have ht' : t.size ≤ 9223372036854775807 := by unfold maxLen at ht; omega
  have HB := Lib.hid hb
  have LT := Lib.hid (show (t.extract 0 30).size ≤ maxLen by omega)
  have HT := Lib.hid ht
  clear hb lt ht
  by_cases h30 : 30 < t.size
  · clear HT
    go_enter Try.func5, Try.ntmps5
    go_wp2_with fail
    generalize wrap64 ((IntKind.u64.wrap a).tmod 281474976710656) = b at *
    generalize t.extract 0 30 = s at *
    have ms := LT.out
    obtain ⟨h0, h1⟩ := HB.out
    have hcl := cls_of b h0 h1
    have hix : ∀ w, (Instr.index 9 (.string (strOfNums (byteNums b))) (.int .i64 0)).run Try.prog w = .ok (.int .u8 (bAt b 0)) w := fun w => byte_at b 0 (by omega) w
    have hbd := bAt_bd b 0
    have sb : (strOfNums (byteNums b)).size = 6 := by rw [strOfNums_size, byteNums_len]
    have sx : (strOfNums (textNums b)).size = 17 := by rw [strOfNums_size, textNums_len]
    have u := hcl.uni
    have v := hcl.res
    clear hcl
    refine (bytes_yes b _ h0 h1).mono ?_
    rintro e w1 ⟨rfl, hb1⟩
    go_wp2_with fail
    refine (print_yes b _ h0 h1).mono ?_
    rintro e w2 ⟨rfl, hb2⟩
    go_wp2_with fail
    refine (of_bytes b _ h0 h1).mono ?_
    rintro e w' ⟨rfl, rfl⟩
    go_wp2_with fail
    refine (parse_text b _ h0 h1).mono ?_
    rintro e w3 ⟨rfl, hb3⟩
    go_wp2_with fail
    refine (class_yes b _ h0 h1).mono ?_
    rintro e w' ⟨rfl, rfl⟩
    go_wp2_with fail
    refine (alive_any _).mono ?_
    rintro e w4 ⟨rfl, hb4⟩
    have hB := bt (bt (bt hb1 hb2) hb3) hb4
    clear hb1 hb2 hb3 hb4
    by_cases hj : (pr s).2 = 0
    · obtain ⟨d0, d1, hT⟩ := text_back s hj
      have HJ := Lib.hid hj
      have HD := Lib.hid (show (pr s).1 = (pr s).1 from rfl)
      have HT := Lib.hid hT
      clear hj hT
      generalize hd : (pr s).1 = d at *
      have HD' := Lib.hid hd
      clear hd HD
      rcases Bool.eq_false_or_eq_true (decide (1652522221568 ≤ b)) with r1 | r1 <;> rcases Bool.eq_false_or_eq_true (decide (b < 1652522221584)) with r2 | r2
      all_goals
        rw [r1, r2] at v
        simp only [Bool.and_true, Bool.and_false, Bool.and_self] at v
        go_wp2_with (first
          | (go_at_call 20; refine (parse_ok s d _ ms HD'.out HJ.out).mono ?_; rintro e w5 ⟨rfl, hb5⟩)
          | (go_at_call 12; refine (print_back s d _ d0 d1 HT.out).mono ?_; rintro e w6 ⟨rfl, hb6⟩))
        go_ret
        exact ⟨rfl, bt (bt hB hb5) hb6⟩
    · have HJ := Lib.hid hj
      have hj' : ((pr s).2 != 0) = true := by simp only [bne_iff_ne]; exact hj
      clear hj
      rcases Bool.eq_false_or_eq_true (decide (1652522221568 ≤ b)) with r1 | r1 <;> rcases Bool.eq_false_or_eq_true (decide (b < 1652522221584)) with r2 | r2
      all_goals
        rw [r1, r2] at v
        simp only [Bool.and_true, Bool.and_false, Bool.and_self] at v
        go_wp2_with (go_at_call 20; refine (parse_bad s _ ms HJ.out).mono ?_; rintro e w5 ⟨rfl, hb5⟩)
        go_ret
        exact ⟨rfl, bt hB hb5⟩
  · clear LT
    go_enter Try.func5, Try.ntmps5
    go_wp2_with fail
    generalize wrap64 ((IntKind.u64.wrap a).tmod 281474976710656) = b at *
    obtain ⟨s, rfl⟩ : ∃ s, s = t := ⟨t, rfl⟩
    have ms := HT.out
    obtain ⟨h0, h1⟩ := HB.out
    have hcl := cls_of b h0 h1
    have hix : ∀ w, (Instr.index 9 (.string (strOfNums (byteNums b))) (.int .i64 0)).run Try.prog w = .ok (.int .u8 (bAt b 0)) w := fun w => byte_at b 0 (by omega) w
    have hbd := bAt_bd b 0
    have sb : (strOfNums (byteNums b)).size = 6 := by rw [strOfNums_size, byteNums_len]
    have sx : (strOfNums (textNums b)).size = 17 := by rw [strOfNums_size, textNums_len]
    have u := hcl.uni
    have v := hcl.res
    clear hcl
    refine (bytes_yes b _ h0 h1).mono ?_
    rintro e w1 ⟨rfl, hb1⟩
    go_wp2_with fail
    refine (print_yes b _ h0 h1).mono ?_
    rintro e w2 ⟨rfl, hb2⟩
    go_wp2_with fail
    refine (of_bytes b _ h0 h1).mono ?_
    rintro e w' ⟨rfl, rfl⟩
    go_wp2_with fail
    refine (parse_text b _ h0 h1).mono ?_
    rintro e w3 ⟨rfl, hb3⟩
    go_wp2_with fail
    refine (class_yes b _ h0 h1).mono ?_
    rintro e w' ⟨rfl, rfl⟩
    go_wp2_with fail
    refine (alive_any _).mono ?_
    rintro e w4 ⟨rfl, hb4⟩
    have hB := bt (bt (bt hb1 hb2) hb3) hb4
    clear hb1 hb2 hb3 hb4
    by_cases hj : (pr s).2 = 0
    · obtain ⟨d0, d1, hT⟩ := text_back s hj
      have HJ := Lib.hid hj
      have HD := Lib.hid (show (pr s).1 = (pr s).1 from rfl)
      have HT := Lib.hid hT
      clear hj hT
      generalize hd : (pr s).1 = d at *
      have HD' := Lib.hid hd
      clear hd HD
      rcases Bool.eq_false_or_eq_true (decide (1652522221568 ≤ b)) with r1 | r1 <;> rcases Bool.eq_false_or_eq_true (decide (b < 1652522221584)) with r2 | r2
      all_goals
        rw [r1, r2] at v
        simp only [Bool.and_true, Bool.and_false, Bool.and_self] at v
        go_wp2_with (first
          | (go_at_call 20; refine (parse_ok s d _ ms HD'.out HJ.out).mono ?_; rintro e w5 ⟨rfl, hb5⟩)
          | (go_at_call 12; refine (print_back s d _ d0 d1 HT.out).mono ?_; rintro e w6 ⟨rfl, hb6⟩))
        go_ret
        exact ⟨rfl, bt (bt hB hb5) hb6⟩
    · have HJ := Lib.hid hj
      have hj' : ((pr s).2 != 0) = true := by simp only [bne_iff_ne]; exact hj
      clear hj
      rcases Bool.eq_false_or_eq_true (decide (1652522221568 ≤ b)) with r1 | r1 <;> rcases Bool.eq_false_or_eq_true (decide (b < 1652522221584)) with r2 | r2
      all_goals
        rw [r1, r2] at v
        simp only [Bool.and_true, Bool.and_false, Bool.and_self] at v
        go_wp2_with (go_at_call 20; refine (parse_bad s _ ms HJ.out).mono ?_; rintro e w5 ⟨rfl, hb5⟩)
        go_ret
        exact ⟨rfl, bt hB hb5⟩
end Go.Proofs.Ytjmmdlnhallkpaa.MacP
