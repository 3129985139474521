/-
  Plain facts of layer 2: what is printed is parsed as it was, and what is parsed may be, and is printed as it was.
-/
import Derived.Test.YtjmmdlnhallkpaaMacM
import Derived.Test.YtjmmdlnhallkpaaFrameE
namespace Go.Proofs.Ytjmmdlnhallkpaa.MacP
open Go.RowKit
set_option linter.unusedVariables false

theorem bytes_inv (u : ByteArray) (h : u.size = 6) : strOfNums (byteNums (ofTo (gb u) 6)) = u := by
  refine str_ext u _ (by rw [byteNums_len, h]) fun k hk => ?_
  have b0 := gb_bd u 0; have b1 := gb_bd u 1; have b2 := gb_bd u 2; have b3 := gb_bd u 3; have b4 := gb_bd u 4; have b5 := gb_bd u 5
  have e : ofTo (gb u) 6 = 256 * (256 * (256 * (256 * (256 * (256 * 0 + gb u 0) + gb u 1) + gb u 2) + gb u 3) + gb u 4) + gb u 5 := rfl
  rw [e]
  obtain rfl | rfl | rfl | rfl | rfl | rfl : k = 0 ∨ k = 1 ∨ k = 2 ∨ k = 3 ∨ k = 4 ∨ k = 5 := by omega
  · show _ = bAt _ 0; rw [bAt0]; omega
  · show _ = bAt _ 1; rw [bAt1]; omega
  · show _ = bAt _ 2; rw [bAt2]; omega
  · show _ = bAt _ 3; rw [bAt3]; omega
  · show _ = bAt _ 4; rw [bAt4]; omega
  · show _ = bAt _ 5; rw [bAt5]; omega
theorem ofTo_bytes (a : Int) (h0 : 0 ≤ a) (h1 : a < 281474976710656) : ofTo (gb (strOfNums (byteNums a))) 6 = a := by
  have := fr_bytes a h0 h1
  rw [fr_6 _ (by rw [strOfNums_size]; rfl)] at this
  exact congrArg Prod.fst this
theorem adr_bd (s : ByteArray) (j : Nat) : 0 ≤ adr s j ∧ adr s j < 281474976710656 := by
  have := ofTo_bd (s.extract j (j + 6)) 6
  exact ⟨this.1, Int.lt_of_lt_of_le this.2 (by decide)⟩
theorem adr_right (s : ByteArray) (j : Nat) : rightB (adr s j) = true := by
  have := adr_bd s j
  simp [rightB, this.1, this.2]
theorem typ_bd (s : ByteArray) : 0 ≤ typ s ∧ typ s ≤ 65535 := by
  have b0 := gb_bd s 12; have b1 := gb_bd s 13
  unfold typ; omega

theorem gb_extract (s : ByteArray) (j k i : Nat) (hk : k ≤ s.size) (h : j + i < k) : gb (s.extract j k) i = gb s (j + i) := by
  unfold gb
  rw [Lib.extract_data, List.getD_eq_getElem?_getD, List.getElem?_take_of_lt (by omega), List.getElem?_drop, List.getD_eq_getElem?_getD]
theorem extract_nums (xs : List Int) (j n : Nat) (h : j + n ≤ xs.length) : (strOfNums xs).extract j (j + n) = strOfNums ((xs.drop j).take n) := by
  apply ByteArray.ext; apply Array.toList_inj.1
  rw [Lib.extract_data, strOfNums_data, strOfNums_data, List.map_take, List.map_drop, Nat.add_sub_cancel_left]

theorem pB_list (d s t : Int) (x : ByteArray) : pBytes d s t x = strOfNums (byteNums d ++ (byteNums s ++ ([t / 256, t % 256] ++ nums x))) := rfl
theorem nums_len (x : ByteArray) : (nums x).length = x.size := by simp [nums]
theorem adr_0 (d s t : Int) (x : ByteArray) (h0 : 0 ≤ d) (h1 : d < 281474976710656) : adr (pBytes d s t x) 0 = d := by
  unfold adr
  rw [pB_list, extract_nums _ 0 6 (by simp [byteNums])]
  show ofTo (gb (strOfNums (byteNums d))) 6 = d
  exact ofTo_bytes d h0 h1
theorem adr_6 (d s t : Int) (x : ByteArray) (h0 : 0 ≤ s) (h1 : s < 281474976710656) : adr (pBytes d s t x) 6 = s := by
  unfold adr
  rw [pB_list, extract_nums _ 6 6 (by simp [byteNums])]
  show ofTo (gb (strOfNums (byteNums s))) 6 = s
  exact ofTo_bytes s h0 h1
theorem gb_nums (xs : List Int) (k : Nat) (h : k < xs.length) (hb : 0 ≤ xs.getD k 0 ∧ xs.getD k 0 < 256) : gb (strOfNums xs) k = xs.getD k 0 := by
  unfold gb
  rw [List.getD_eq_getElem?_getD, List.getElem?_eq_getElem h] at hb
  rw [strOfNums_data, List.getD_eq_getElem?_getD, List.getElem?_map, List.getD_eq_getElem?_getD, List.getElem?_eq_getElem h]
  simp only [Option.map_some, Option.getD_some] at hb ⊢
  rw [UInt8.toNat_ofNat']
  omega
theorem typ_p (d s t : Int) (x : ByteArray) (h0 : 0 ≤ t) (h1 : t ≤ 65535) : typ (pBytes d s t x) = t := by
  unfold typ
  have l : (byteNums d ++ (byteNums s ++ ([t / 256, t % 256] ++ nums x))).length = 14 + x.size := by simp [byteNums, nums]; omega
  have e0 : gb (pBytes d s t x) 12 = t / 256 := by
    rw [pB_list, gb_nums _ 12 (by rw [l]; omega) (by show 0 ≤ t / 256 ∧ t / 256 < 256; omega)]; rfl
  have e1 : gb (pBytes d s t x) 13 = t % 256 := by
    rw [pB_list, gb_nums _ 13 (by rw [l]; omega) (by show 0 ≤ t % 256 ∧ t % 256 < 256; omega)]; rfl
  rw [e0, e1]; omega
theorem dat_p (d s t : Int) (x : ByteArray) : dat (pBytes d s t x) = x := by
  unfold dat
  have hs := pBytes_size d s t x
  have hx := extract_nums (byteNums d ++ (byteNums s ++ ([t / 256, t % 256] ++ nums x))) 14 x.size (by simp [byteNums, nums]; omega)
  rw [hs, pB_list, hx]
  show strOfNums ((nums x).take x.size) = x
  rw [List.take_of_length_le (by rw [nums_len]; exact Nat.le_refl _), strOfNums_nums]

theorem pE_p (d s t : Int) (x : ByteArray) (h : okB d s t x = true) : pE (pBytes d s t x) = 0 := by
  obtain ⟨hd, hs, t0, t1, hx⟩ := okB_yes h
  obtain ⟨s0, s1⟩ := rightB_yes (srcB_right hs)
  have hz := pBytes_size d s t x
  unfold pE
  rw [if_neg (by omega), if_neg (by omega), adr_6 d s t x s0 s1, hs]; rfl
/-- What is printed is parsed as it was. -/
theorem parse_print (d s t : Int) (x : ByteArray) (h : okB d s t x = true) : pTup (pBytes d s t x) = .tuple #[fv d s t x, .int .i64 0] := by
  obtain ⟨hd, hs, t0, t1, hx⟩ := okB_yes h
  obtain ⟨s0, s1⟩ := rightB_yes (srcB_right hs)
  obtain ⟨d0, d1⟩ := rightB_yes hd
  rw [pTup_good _ (pE_p d s t x h), adr_0 d s t x d0 d1, adr_6 d s t x s0 s1, typ_p d s t x t0 t1, dat_p]
theorem pE_zero (r : ByteArray) (h : pE r = 0) : 14 ≤ r.size ∧ r.size ≤ 114 ∧ srcB (adr r 6) = true := by
  unfold pE at h
  by_cases a : r.size < 14
  · rw [if_pos a] at h; cases h
  · rw [if_neg a] at h
    by_cases b : 114 < r.size
    · rw [if_pos b] at h; cases h
    · rw [if_neg b] at h
      cases k : srcB (adr r 6)
      · rw [k] at h; cases h
      · exact ⟨by omega, by omega, rfl⟩
/-- What is parsed may be. -/
theorem parse_ok (r : ByteArray) (h : pE r = 0) : okB (adr r 0) (adr r 6) (typ r) (dat r) = true := by
  obtain ⟨a, b, c⟩ := pE_zero r h
  have ht := typ_bd r
  have hd : (dat r).size = r.size - 14 := by unfold dat; rw [ByteArray.size_extract]; omega
  unfold okB
  rw [adr_right, c]
  simp [ht.1, ht.2]; omega
/-- What is parsed is printed as it was. -/
theorem print_parse (r : ByteArray) (h : pE r = 0) : pBytes (adr r 0) (adr r 6) (typ r) (dat r) = r := by
  obtain ⟨a, b, c⟩ := pE_zero r h
  have ht := typ_bd r
  have hd : (dat r).size = r.size - 14 := by unfold dat; rw [ByteArray.size_extract]; omega
  have e0 : strOfNums (byteNums (adr r 0)) = r.extract 0 6 := bytes_inv (r.extract 0 6) (by rw [ext_size _ _ _ (by omega)])
  have e6 : strOfNums (byteNums (adr r 6)) = r.extract 6 12 := bytes_inv (r.extract 6 12) (by rw [ext_size _ _ _ (by omega)])
  have et : strOfNums [typ r / 256, typ r % 256] = r.extract 12 14 := by
    refine str_ext _ _ (by rw [ext_size _ _ _ (by omega)]; rfl) fun k hk => ?_
    rw [ext_size _ _ _ (by omega)] at hk
    have b0 := gb_bd r 12; have b1 := gb_bd r 13
    rw [gb_extract _ _ _ _ (by omega) (by omega)]
    obtain rfl | rfl : k = 0 ∨ k = 1 := by omega
    · show gb r 12 = typ r / 256; unfold typ; omega
    · show gb r 13 = typ r % 256; unfold typ; omega
  rw [← four_cat]
  apply ByteArray.ext; apply Array.toList_inj.1
  simp only [cat, four, List.map_cons, List.map_nil, List.flatten_cons, List.flatten_nil, List.append_nil]
  rw [e0, e6, et, dat, Lib.extract_data, Lib.extract_data, Lib.extract_data, Lib.extract_data]
  have hl : r.data.toList.length = r.size := str_size r
  generalize r.data.toList = l at *
  show l.take 6 ++ ((l.drop 6).take 6 ++ ((l.drop 12).take 2 ++ (l.drop 14).take (r.size - 14))) = l
  rw [List.take_of_length_le (l := l.drop 14) (by rw [List.length_drop]; omega)]
  rw [show l.drop 14 = (l.drop 12).drop 2 by rw [List.drop_drop], List.take_append_drop, show l.drop 12 = (l.drop 6).drop 6 by rw [List.drop_drop], List.take_append_drop, List.take_append_drop]
end Go.Proofs.Ytjmmdlnhallkpaa.MacP
