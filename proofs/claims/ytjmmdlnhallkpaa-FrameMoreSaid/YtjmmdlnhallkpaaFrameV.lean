/-
  The walk of FrameMore.
-/
import Derived.Test.YtjmmdlnhallkpaaFrameG
import Derived.Test.YtjmmdlnhallkpaaMacR
import Derived.Deep.Cut
namespace Go.Proofs.Ytjmmdlnhallkpaa.MacP
open Go.RowKit
set_option linter.unusedVariables false

/-- A text with a byte more. -/
def more (x : ByteArray) (b : Int) : ByteArray := strOfNums (nums x ++ [b])
theorem more_size (x : ByteArray) (b : Int) : (more x b).size = x.size + 1 := by rw [more, strOfNums_size]; simp [nums]
theorem nums_str (xs : List Int) (h : ∀ x ∈ xs, 0 ≤ x ∧ x < 256) : nums (strOfNums xs) = xs := by
  unfold nums
  rw [strOfNums_data, List.map_map]
  conv => rhs; rw [← List.map_id xs]
  apply List.map_congr_left
  intro y hy
  have := h y hy
  simp only [Function.comp, id]
  rw [UInt8.toNat_ofNat']; omega
theorem nums_bd (x : ByteArray) : ∀ y ∈ nums x, 0 ≤ y ∧ y < 256 := by
  intro y hy
  simp only [nums, List.mem_map] at hy
  obtain ⟨u, _, rfl⟩ := hy
  have := u.toNat_lt
  omega
theorem more_print (d s t : Int) (x : ByteArray) (b : Int) (h0 : 0 ≤ b) (h1 : b < 256) (t0 : 0 ≤ t) (t1 : t ≤ 65535) (hx : x.size ≤ 200) (w : World) :
    (Op.stringOp .add (pBytes d s t x) (strOfNums [b])).run Try.prog w = .ok (.string (pBytes d s t (more x b))) w := by
  have hn : nums (more x b) = nums x ++ [b] := nums_str _ (by
    intro y hy
    rcases List.mem_append.1 hy with h | h
    · exact nums_bd x y h
    · simp only [List.mem_singleton] at h; subst h; exact ⟨h0, h1⟩)
  have := str_add (byteNums d ++ (byteNums s ++ ([t / 256, t % 256] ++ nums x))) [b] w (by simp [byteNums, nums, -List.map_map]; omega)
  rw [← pB_list] at this
  rw [this, pB_list, hn]
  simp only [List.append_assoc]
theorem more_data (x : ByteArray) (b : Int) (hx : x.size ≤ 200) (w : World) :
    (Op.stringOp .add x (strOfNums [b])).run Try.prog w = .ok (.string (more x b)) w := by
  have := str_add (nums x) [b] w (by simp [nums]; omega)
  rw [strOfNums_nums] at this
  exact this
theorem str_one_at (w : World) (m : Nat) (n : Int) (hm : m = w.heap.size) : (convert 47 9 (.slice (some ⟨m, 0, none⟩) 1 1)).run Try.prog (w.alloc (.cells #[.int .u8 n] 5)) = .ok (.string (strOfNums [n])) (w.alloc (.cells #[.int .u8 n] 5)) := by
  subst hm; exact str_one w n
theorem pE_long (d s t : Int) (x : ByteArray) (h : 100 < x.size) : pE (pBytes d s t x) = 8 := by
  have := pBytes_size d s t x
  unfold pE
  rw [if_neg (by omega), if_pos (by omega)]
theorem pE_short (r : ByteArray) (h : r.size < 14) : pE r = 7 := by unfold pE; rw [if_pos h]
theorem ok_more (d s t : Int) (x : ByteArray) (b : Int) (h : okB d s t x = true) (hx : x.size < 100) : okB d s t (more x b) = true := by
  unfold okB at *
  simp only [Bool.and_eq_true, decide_eq_true_eq] at h ⊢
  exact ⟨h.1, by rw [more_size]; omega⟩
theorem short_size (d s t : Int) (x : ByteArray) : ((pBytes d s t x).extract 0 13).size = 13 := by rw [ByteArray.size_extract, pBytes_size]; omega

set_option maxRecDepth 100000 in
set_option maxHeartbeats 2000000 in
theorem frameMore_no (d s t : Int) (x : ByteArray) (b : Int) (w : World) (hx : x.size ≤ maxLen) (b0 : 0 ≤ b) (b1 : b < 256) (ok : okB d s t (cutS x 130) = false) :
    Calls Try.prog 9 #[fv d s t x, .int .u8 b] w fun e w' => e = .returned (.bool true) ∧ Below w.heap.size w w' := by
  have HX := Lib.hid hx
  have m0 := cutS_size x 130
  have m1 : Hid ((cutS x 130).size ≤ maxLen) := Lib.hid (by unfold maxLen; omega)
  clear hx
  go_enter Try.func9, Try.ntmps9
  go_upto_region 1 with fail
  go_cut [2] from 11 (fun s2 wx => s2 = .pointer (some ⟨w.heap.size, 0, none⟩) ∧ wx.frozen? ⟨w.heap.size, 3, none⟩ = false ∧ PB w d s t (cutS x 130) wx)
  case first =>
    go_wp2_with ((go_at_call 23; (with_reducible refine (few_any _ _ _ _ _ HX.out).mono ?_); rintro e w1 ⟨rfl, hb1⟩; obtain ⟨hc1, hf1⟩ := bcell hb1; have z1a : w.heap.size < w1.heap.size := by (have := hb1.size; simp at this; omega)))
    go_meet
    case rel =>
      refine ⟨rfl, by go_simp, by go_simp, by go_simp, by go_simp, by go_simp, by simp; omega, ?_⟩
      repeat (first | exact (((Below.refl _ _).alloc (Nat.le_refl _) _).trans (hb1.mono (by simp))) | apply Below.drew | refine Below.setCell ?_ (by simp) _)
      done
  case rest =>
  obtain ⟨rfl, f3, hp⟩ := hcut
  generalize cutS x 130 = y at *
  obtain ⟨k0, k1, k2, k3, zz, hB⟩ := hp
  have OK := Lib.hid ok
  clear ok
  go_wp2_with fail
  go_at_call 24
  (with_reducible refine (fprint_no _ _ _ _ _ m1.out OK.out).mono ?_)
  rintro e w2 ⟨rfl, hb2⟩
  obtain ⟨hc2, hf2⟩ := bcell hb2
  have z2a : w.heap.size < w2.heap.size := Nat.lt_of_lt_of_le (by first | with_reducible assumption | (simp; done) | (simp; omega)) hb2.size
  have y2a : w.heap.size ≤ w2.heap.size := Nat.le_of_lt z2a
  go_wp2_with fail
  go_at_call 31
  (with_reducible refine (falive_any _).mono ?_)
  rintro e w3 ⟨rfl, hb3⟩
  obtain ⟨hc3, hf3⟩ := bcell hb3
  have z3a : w.heap.size < w3.heap.size := Nat.lt_of_lt_of_le (by first | with_reducible assumption | (simp; done) | (simp; omega)) hb3.size
  have y3a : w.heap.size ≤ w3.heap.size := Nat.le_of_lt z3a
  go_wp2_with fail
  go_ret
  refine ⟨rfl, ?_⟩
  repeat (first | exact hB | assumption | apply Below.drew | refine Below.setCell ?_ (by first | omega | (simp; omega)) _ | refine Below.alloc ?_ (by first | omega | (simp; omega)) _ | refine Below.trans ?_ (Below.mono (by assumption) (by first | omega | (simp; omega))))

set_option maxRecDepth 100000 in
set_option maxHeartbeats 2000000 in
theorem frameMore_100 (d s t : Int) (x : ByteArray) (b : Int) (w : World) (hx : x.size ≤ maxLen) (b0 : 0 ≤ b) (b1 : b < 256) (ok : okB d s t (cutS x 130) = true) (hl : (cutS x 130).size = 100) :
    Calls Try.prog 9 #[fv d s t x, .int .u8 b] w fun e w' => e = .returned (.bool true) ∧ Below w.heap.size w w' := by
  have HX := Lib.hid hx
  have m0 := cutS_size x 130
  have m1 : Hid ((cutS x 130).size ≤ maxLen) := Lib.hid (by unfold maxLen; omega)
  clear hx
  go_enter Try.func9, Try.ntmps9
  go_upto_region 1 with fail
  go_cut [2] from 11 (fun s2 wx => s2 = .pointer (some ⟨w.heap.size, 0, none⟩) ∧ wx.frozen? ⟨w.heap.size, 3, none⟩ = false ∧ PB w d s t (cutS x 130) wx)
  case first =>
    go_wp2_with ((go_at_call 23; (with_reducible refine (few_any _ _ _ _ _ HX.out).mono ?_); rintro e w1 ⟨rfl, hb1⟩; obtain ⟨hc1, hf1⟩ := bcell hb1; have z1a : w.heap.size < w1.heap.size := by (have := hb1.size; simp at this; omega)))
    go_meet
    case rel =>
      refine ⟨rfl, by go_simp, by go_simp, by go_simp, by go_simp, by go_simp, by simp; omega, ?_⟩
      repeat (first | exact (((Below.refl _ _).alloc (Nat.le_refl _) _).trans (hb1.mono (by simp))) | apply Below.drew | refine Below.setCell ?_ (by simp) _)
      done
  case rest =>
  obtain ⟨rfl, f3, hp⟩ := hcut
  generalize cutS x 130 = y at *
  obtain ⟨k0, k1, k2, k3, zz, hB⟩ := hp
  have OK := Lib.hid ok
  obtain ⟨_, _, t0, t1, hy⟩ := okB_yes ok
  clear ok
  have q1 := fun w => more_print d s t y b b0 b1 t0 t1 (by omega) w
  have q2 := fun w => more_data y b (by omega) w
  have q3 := fun w m hm => str_one_at w m b hm
  have hE : Hid (pE (pBytes d s t (more y b)) = 8) := Lib.hid (pE_long _ _ _ _ (by rw [more_size]; omega))
  have hM : Hid ((pBytes d s t (more y b)).size ≤ maxLen) := Lib.hid (by rw [pBytes_size, more_size]; unfold maxLen; omega)
  have hl' : ((y.size : Int) == 100) = true := by simp; omega
  clear hl
  go_wp2_with fail
  go_at_call 24
  (with_reducible refine (fprint_yes _ _ _ _ _ OK.out).mono ?_)
  rintro e w2 ⟨rfl, hb2⟩
  obtain ⟨hc2, hf2⟩ := bcell hb2
  have z2a : w.heap.size < w2.heap.size := Nat.lt_of_lt_of_le (by first | with_reducible assumption | (simp; done) | (simp; omega)) hb2.size
  have y2a : w.heap.size ≤ w2.heap.size := Nat.le_of_lt z2a
  go_wp2_with fail
  go_at_call 26
  (with_reducible refine (fparse_bad _ 8 _ hM.out hE.out (by decide)).mono ?_)
  rintro e w3 ⟨rfl, hb3⟩
  obtain ⟨hc3, hf3⟩ := bcell hb3
  have z3a : w.heap.size < w3.heap.size := Nat.lt_of_lt_of_le (by first | with_reducible assumption | (simp; done) | (simp; omega)) hb3.size
  have y3a : w.heap.size ≤ w3.heap.size := Nat.le_of_lt z3a
  go_wp2_with fail
  go_at_call 31
  (with_reducible refine (falive_any _).mono ?_)
  rintro e w4 ⟨rfl, hb4⟩
  obtain ⟨hc4, hf4⟩ := bcell hb4
  have z4a : w3.heap.size < w4.heap.size := Nat.lt_of_lt_of_le (by first | with_reducible assumption | (simp; done) | (simp; omega)) hb4.size
  have y4a : w3.heap.size ≤ w4.heap.size := Nat.le_of_lt z4a
  have z4b : w.heap.size < w4.heap.size := Nat.lt_of_lt_of_le (by first | with_reducible assumption | (simp; done) | (simp; omega)) hb4.size
  have y4b : w.heap.size ≤ w4.heap.size := Nat.le_of_lt z4b
  go_wp2_with fail
  go_ret
  refine ⟨rfl, ?_⟩
  repeat (first | exact hB | assumption | apply Below.drew | refine Below.setCell ?_ (by first | omega | (simp; omega)) _ | refine Below.alloc ?_ (by first | omega | (simp; omega)) _ | refine Below.trans ?_ (Below.mono (by assumption) (by first | omega | (simp; omega))))

end Go.Proofs.Ytjmmdlnhallkpaa.MacP
