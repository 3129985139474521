/-
  Plain facts of layer 1: what is told is read as it was; the order of bytes and of texts.
-/
import Derived.Test.YtjmmdlnhallkpaaMacR
import Derived.Lib.Strings
import Derived.WideShapes
namespace Go.Proofs.Ytjmmdlnhallkpaa.MacP
open Go.RowKit
set_option linter.unusedVariables false

theorem bAt1 (a : Int) : bAt a 1 = a / 4294967296 % 256 := rfl
theorem bAt2 (a : Int) : bAt a 2 = a / 16777216 % 256 := rfl
theorem bAt3 (a : Int) : bAt a 3 = a / 65536 % 256 := rfl
theorem bAt4 (a : Int) : bAt a 4 = a / 256 % 256 := rfl
theorem bAt5 (a : Int) : bAt a 5 = a % 256 := by show a / 1 % 256 = _; rw [Int.ediv_one]
theorem horner (a : Int) (h0 : 0 ≤ a) (h1 : a < 281474976710656) :
    256 * (256 * (256 * (256 * (256 * (256 * 0 + bAt a 0) + bAt a 1) + bAt a 2) + bAt a 3) + bAt a 4) + bAt a 5 = a := by
  rw [bAt0, bAt1, bAt2, bAt3, bAt4, bAt5]; omega

/-! ### bytes are read as they were -/
theorem byteNums_len (a : Int) : (byteNums a).length = 6 := rfl
theorem textNums_len (a : Int) : (textNums a).length = 17 := rfl
theorem fr_bytes (a : Int) (h0 : 0 ≤ a) (h1 : a < 281474976710656) : fr (strOfNums (byteNums a)) = (a, 0) := by
  unfold fr
  rw [strOfNums_size, byteNums_len, if_neg (by omega), if_neg (by omega)]
  have e : ofTo (gb (strOfNums (byteNums a))) 6 = 256 * (256 * (256 * (256 * (256 * (256 * 0 + bAt a 0) + bAt a 1) + bAt a 2) + bAt a 3) + bAt a 4) + bAt a 5 := by
    simp only [ofTo]
    rw [gb_bytes a 0 (by omega), gb_bytes a 1 (by omega), gb_bytes a 2 (by omega), gb_bytes a 3 (by omega), gb_bytes a 4 (by omega), gb_bytes a 5 (by omega)]
    rfl
  rw [e, horner a h0 h1]

/-! ### texts are read as they were -/
theorem hexd_bd (x : Int) (h0 : 0 ≤ x) (h1 : x < 16) : 48 ≤ hexd x ∧ hexd x ≤ 102 := by unfold hexd; split <;> omega
theorem pv_hexd (x : Int) (h0 : 0 ≤ x) (h1 : x < 16) : pv (hexd x) = x := by
  unfold hexd
  split
  · unfold pv; rw [if_pos (by omega)]; omega
  · unfold pv; rw [if_neg (by omega), if_pos (by omega)]; omega
theorem hexd_pv (c : Int) (h : ¬ pv c < 0) : hexd (pv c) = c := by
  unfold pv at h ⊢
  split
  · unfold hexd; rw [if_pos (by omega)]; omega
  · split
    · unfold hexd; rw [if_neg (by omega)]; omega
    · rw [if_neg (by assumption), if_neg (by assumption)] at h; omega
theorem textNums_bd (a : Int) : ∀ x ∈ textNums a, 0 ≤ x ∧ x < 256 := by
  have hh : ∀ i, (0 ≤ hexd (bAt a i / 16) ∧ hexd (bAt a i / 16) < 256) ∧ (0 ≤ hexd (bAt a i % 16) ∧ hexd (bAt a i % 16) < 256) := fun i => by
    have hb := bAt_bd a i
    have h1 := hexd_bd (bAt a i / 16) (by omega) (by omega)
    have h2 := hexd_bd (bAt a i % 16) (by omega) (by omega)
    omega
  unfold textNums
  repeat' (rw [List.forall_mem_cons])
  have h58 : (0 : Int) ≤ 58 ∧ (58 : Int) < 256 := by decide
  exact ⟨(hh 0).1, (hh 0).2, h58, (hh 1).1, (hh 1).2, h58, (hh 2).1, (hh 2).2, h58, (hh 3).1, (hh 3).2, h58, (hh 4).1, (hh 4).2, h58, (hh 5).1, (hh 5).2, fun x hx => by cases hx⟩
theorem gb_text (a : Int) (k : Nat) (h : k < 17) : gb (strOfNums (textNums a)) k = (textNums a).getD k 0 := gb_str _ _ (by simpa [textNums] using h) (textNums_bd a)
theorem pFrom_hex (f : Nat → Int) (n i : Nat) (acc x : Int) (hm : ¬ i % 3 = 2) (hf : f i = hexd x) (h0 : 0 ≤ x) (h1 : x < 16) : pFrom f (n + 1) i acc = pFrom f n (i + 1) (16 * acc + x) :=
  pFrom_cont _ _ _ _ _ (by rw [pStep, if_neg hm, hf, pv_hexd x h0 h1, if_neg (by omega)])
theorem pFrom_sep (f : Nat → Int) (n i : Nat) (acc : Int) (hm : i % 3 = 2) (hf : f i = 58) : pFrom f (n + 1) i acc = pFrom f n (i + 1) acc :=
  pFrom_cont _ _ _ _ _ (by rw [pStep, if_pos hm, hf, if_pos rfl])
theorem pr_text (a : Int) (h0 : 0 ≤ a) (h1 : a < 281474976710656) : pr (strOfNums (textNums a)) = (a, 0) := by
  refine pr_some _ (by rw [strOfNums_size, textNums_len]) a ?_
  have b0 := bAt_bd a 0; have b1 := bAt_bd a 1; have b2 := bAt_bd a 2; have b3 := bAt_bd a 3; have b4 := bAt_bd a 4; have b5 := bAt_bd a 5
  have g := gb_text a
  rw [pFrom_hex _ _ _ _ (bAt a 0 / 16) (by decide) (g 0 (by omega)) (by omega) (by omega)]
  rw [pFrom_hex _ _ _ _ (bAt a 0 % 16) (by decide) (g 1 (by omega)) (by omega) (by omega)]
  rw [pFrom_sep _ _ _ _ (by decide) (g 2 (by omega))]
  rw [pFrom_hex _ _ _ _ (bAt a 1 / 16) (by decide) (g 3 (by omega)) (by omega) (by omega)]
  rw [pFrom_hex _ _ _ _ (bAt a 1 % 16) (by decide) (g 4 (by omega)) (by omega) (by omega)]
  rw [pFrom_sep _ _ _ _ (by decide) (g 5 (by omega))]
  rw [pFrom_hex _ _ _ _ (bAt a 2 / 16) (by decide) (g 6 (by omega)) (by omega) (by omega)]
  rw [pFrom_hex _ _ _ _ (bAt a 2 % 16) (by decide) (g 7 (by omega)) (by omega) (by omega)]
  rw [pFrom_sep _ _ _ _ (by decide) (g 8 (by omega))]
  rw [pFrom_hex _ _ _ _ (bAt a 3 / 16) (by decide) (g 9 (by omega)) (by omega) (by omega)]
  rw [pFrom_hex _ _ _ _ (bAt a 3 % 16) (by decide) (g 10 (by omega)) (by omega) (by omega)]
  rw [pFrom_sep _ _ _ _ (by decide) (g 11 (by omega))]
  rw [pFrom_hex _ _ _ _ (bAt a 4 / 16) (by decide) (g 12 (by omega)) (by omega) (by omega)]
  rw [pFrom_hex _ _ _ _ (bAt a 4 % 16) (by decide) (g 13 (by omega)) (by omega) (by omega)]
  rw [pFrom_sep _ _ _ _ (by decide) (g 14 (by omega))]
  rw [pFrom_hex _ _ _ _ (bAt a 5 / 16) (by decide) (g 15 (by omega)) (by omega) (by omega)]
  rw [pFrom_hex _ _ _ _ (bAt a 5 % 16) (by decide) (g 16 (by omega)) (by omega) (by omega)]
  have h := horner a h0 h1
  generalize bAt a 0 = c0 at *
  generalize bAt a 1 = c1 at *
  generalize bAt a 2 = c2 at *
  generalize bAt a 3 = c3 at *
  generalize bAt a 4 = c4 at *
  generalize bAt a 5 = c5 at *
  show some _ = some a
  congr 1
  clear g
  omega

/-! ### what is read is told as it was -/
theorem inv_hex (f : Nat → Int) (n i : Nat) (acc d : Int) (hm : ¬ i % 3 = 2) (h : pFrom f (n + 1) i acc = some d) : ∃ x, 0 ≤ x ∧ x < 16 ∧ f i = hexd x ∧ pFrom f n (i + 1) (16 * acc + x) = some d := by
  have hb := pv_bd (f i)
  by_cases hc : pv (f i) < 0
  · rw [pFrom_stop _ _ _ _ (by rw [pStep, if_neg hm, if_pos hc])] at h; cases h
  · rw [pFrom_cont _ _ _ _ _ (by rw [pStep, if_neg hm, if_neg hc])] at h
    exact ⟨pv (f i), by omega, hb.2, (hexd_pv _ hc).symm, h⟩
theorem inv_sep (f : Nat → Int) (n i : Nat) (acc d : Int) (hm : i % 3 = 2) (h : pFrom f (n + 1) i acc = some d) : f i = 58 ∧ pFrom f n (i + 1) acc = some d := by
  by_cases hc : f i = 58
  · rw [pFrom_cont (b := acc) _ _ _ _ (by rw [pStep, if_pos hm, if_pos hc])] at h; exact ⟨hc, h⟩
  · rw [pFrom_stop _ _ _ _ (by rw [pStep, if_pos hm, if_neg hc])] at h; cases h
theorem pr_ok (t : ByteArray) (h : (pr t).2 = 0) : t.size = 17 ∧ pFrom (gb t) 17 0 0 = some (pr t).1 := by
  unfold pr at h ⊢
  split at h
  · cases h
  · split at h
    · cases h
    · rw [if_neg (by assumption), if_neg (by assumption)]
      refine ⟨by omega, ?_⟩
      split at h
      · cases h
      · rename_i v hv
        rw [hv]
theorem pr_not (t : ByteArray) (h : ¬ (pr t).2 = 0) : (pr t).1 = 0 := by
  unfold pr at h ⊢
  split
  · rfl
  · split
    · rfl
    · rw [if_neg (by assumption), if_neg (by assumption)] at h
      split
      · rfl
      · rename_i v hv
        rw [hv] at h
        exact absurd rfl h
theorem str_ext (t : ByteArray) (xs : List Int) (hl : xs.length = t.size) (hx : ∀ k, k < t.size → gb t k = xs.getD k 0) : strOfNums xs = t := by
  refine WideShapes.bytes_inj ?_
  rw [strOfNums_data]
  refine List.ext_getElem (by simpa using hl) fun k h1 h2 => ?_
  have hk : k < t.size := by simpa using h2
  have hk' : k < xs.length := by omega
  have e := hx k hk
  rw [← get_gb t k hk, List.getD_eq_getElem?_getD, List.getElem?_eq_getElem hk', Option.getD_some] at e
  rw [List.getElem_map, ← e]
  simp
  rfl
theorem text_back (t : ByteArray) (h : (pr t).2 = 0) : 0 ≤ (pr t).1 ∧ (pr t).1 < 281474976710656 ∧ strOfNums (textNums (pr t).1) = t := by
  obtain ⟨hs, hp⟩ := pr_ok t h
  generalize (pr t).1 = d at *
  clear h
  obtain ⟨x0, l0, u0, e0, hp⟩ := inv_hex _ _ _ _ _ (by decide) hp
  obtain ⟨x1, l1, u1, e1, hp⟩ := inv_hex _ _ _ _ _ (by decide) hp
  obtain ⟨s0, hp⟩ := inv_sep _ _ _ _ _ (by decide) hp
  obtain ⟨x2, l2, u2, e2, hp⟩ := inv_hex _ _ _ _ _ (by decide) hp
  obtain ⟨x3, l3, u3, e3, hp⟩ := inv_hex _ _ _ _ _ (by decide) hp
  obtain ⟨s1, hp⟩ := inv_sep _ _ _ _ _ (by decide) hp
  obtain ⟨x4, l4, u4, e4, hp⟩ := inv_hex _ _ _ _ _ (by decide) hp
  obtain ⟨x5, l5, u5, e5, hp⟩ := inv_hex _ _ _ _ _ (by decide) hp
  obtain ⟨s2, hp⟩ := inv_sep _ _ _ _ _ (by decide) hp
  obtain ⟨x6, l6, u6, e6, hp⟩ := inv_hex _ _ _ _ _ (by decide) hp
  obtain ⟨x7, l7, u7, e7, hp⟩ := inv_hex _ _ _ _ _ (by decide) hp
  obtain ⟨s3, hp⟩ := inv_sep _ _ _ _ _ (by decide) hp
  obtain ⟨x8, l8, u8, e8, hp⟩ := inv_hex _ _ _ _ _ (by decide) hp
  obtain ⟨x9, l9, u9, e9, hp⟩ := inv_hex _ _ _ _ _ (by decide) hp
  obtain ⟨s4, hp⟩ := inv_sep _ _ _ _ _ (by decide) hp
  obtain ⟨x10, l10, u10, e10, hp⟩ := inv_hex _ _ _ _ _ (by decide) hp
  obtain ⟨x11, l11, u11, e11, hp⟩ := inv_hex _ _ _ _ _ (by decide) hp
  have hd : d = 16 * (16 * (16 * (16 * (16 * (16 * (16 * (16 * (16 * (16 * (16 * (16 * 0 + x0) + x1) + x2) + x3) + x4) + x5) + x6) + x7) + x8) + x9) + x10) + x11 := (Option.some.inj hp).symm
  clear hp
  have k0 : bAt d 0 / 16 = x0 ∧ bAt d 0 % 16 = x1 := by rw [bAt0]; omega
  have k1 : bAt d 1 / 16 = x2 ∧ bAt d 1 % 16 = x3 := by rw [bAt1]; omega
  have k2 : bAt d 2 / 16 = x4 ∧ bAt d 2 % 16 = x5 := by rw [bAt2]; omega
  have k3 : bAt d 3 / 16 = x6 ∧ bAt d 3 % 16 = x7 := by rw [bAt3]; omega
  have k4 : bAt d 4 / 16 = x8 ∧ bAt d 4 % 16 = x9 := by rw [bAt4]; omega
  have k5 : bAt d 5 / 16 = x10 ∧ bAt d 5 % 16 = x11 := by rw [bAt5]; omega
  refine ⟨by omega, by omega, ?_⟩
  refine str_ext t _ (by rw [textNums_len, hs]) fun k hk => ?_
  unfold textNums
  rw [k0.1, k0.2, k1.1, k1.2, k2.1, k2.2, k3.1, k3.2, k4.1, k4.2, k5.1, k5.2]
  obtain h | h | h | h | h | h | h | h | h | h | h | h | h | h | h | h | h : k = 0 ∨ k = 1 ∨ k = 2 ∨ k = 3 ∨ k = 4 ∨ k = 5 ∨ k = 6 ∨ k = 7 ∨ k = 8 ∨ k = 9 ∨ k = 10 ∨ k = 11 ∨ k = 12 ∨ k = 13 ∨ k = 14 ∨ k = 15 ∨ k = 16 := by omega
  all_goals (subst h; assumption)
end Go.Proofs.Ytjmmdlnhallkpaa.MacP
