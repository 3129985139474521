/-
  Contract of bpdu.Parse over TryQ.
-/
import Derived.Test.YtlgfogllkoabpaaQOwnC
import Derived.Test.YtlgfogllkoabpaaQOwnD
namespace Go.Proofs.Ytlgfogllkoabpaa.QMacP
open Go.RowKit Go.Sort
set_option linter.unusedVariables false
set_option linter.unusedSimpArgs false
set_option maxRecDepth 100000
set_option maxHeartbeats 4000000 in
theorem b_parse_short (s : ByteArray) (w : World) (hs : s.size ≤ maxLen) (h : s.size < 12) : Calls TryQ.prog 8 #[.string s] w fun e w' => e = .returned (.tuple #[cv 0 0 0 0 0, .int .i64 7]) ∧ Below w.heap.size w w' := by
  have hm : (s.size : Int) ≤ 9223372036854775807 := by unfold maxLen at hs; omega
  have hc : decide ((s.size : Int) < 12) = true := by simp; omega
  have hc2 : decide ((12 : Int) < (s.size : Int)) = false := by simp; omega
  replace h := Lib.hid h
  replace hs := Lib.hid hs
  go_enter TryQ.func8, Try.ntmps8
  go_wp2_with fail
  refine bodyPost_ret (v := .tuple #[cv 0 0 0 0 0, .int .i64 7]) (by simp [results, Try.results8, go_sem]) rfl ⟨rfl, ?_⟩
  repeat (first | exact Below.refl _ _ | refine Below.setCell ?_ (by simp) _ | refine Below.alloc ?_ (by simp) _)
set_option maxHeartbeats 4000000 in
theorem b_parse_long (s : ByteArray) (w : World) (hs : s.size ≤ maxLen) (h : 12 < s.size) : Calls TryQ.prog 8 #[.string s] w fun e w' => e = .returned (.tuple #[cv 0 0 0 0 0, .int .i64 8]) ∧ Below w.heap.size w w' := by
  have hm : (s.size : Int) ≤ 9223372036854775807 := by unfold maxLen at hs; omega
  have hc : decide ((s.size : Int) < 12) = false := by simp; omega
  have hc2 : decide ((12 : Int) < (s.size : Int)) = true := by simp; omega
  replace h := Lib.hid h
  replace hs := Lib.hid hs
  go_enter TryQ.func8, Try.ntmps8
  go_wp2_with fail
  refine bodyPost_ret (v := .tuple #[cv 0 0 0 0 0, .int .i64 8]) (by simp [results, Try.results8, go_sem]) rfl ⟨rfl, ?_⟩
  repeat (first | exact Below.refl _ _ | refine Below.setCell ?_ (by simp) _ | refine Below.alloc ?_ (by simp) _)
set_option maxHeartbeats 4000000 in
theorem b_parse_sum (s : ByteArray) (w : World) (hs : s.size = 12) (h : sumTo (gb s) 12 ≠ 0) : Calls TryQ.prog 8 #[.string s] w fun e w' => e = .returned (.tuple #[cv 0 0 0 0 0, .int .i64 9]) ∧ Below w.heap.size w w' := by
  have hS0 := allTo_bd s 12
  obtain ⟨S, hS⟩ : ∃ S, allTo (gb s) 12 = S := ⟨_, rfl⟩
  have hmod := allTo_mod (gb s) 12
  rw [hS] at hS0 hmod
  obtain ⟨hb0, hb1⟩ := hS0
  have hsum := Lib.hid (fun W => (by
    have := b_sum s (by omega) W
    rw [hs, hS] at this
    exact this : Calls TryQ.prog 18 #[.string s] W fun e w' => e = .returned (.int .i64 S) ∧ Below W.heap.size W w'))
  clear hS
  obtain ⟨R, hR⟩ : ∃ R, S % 256 = R := ⟨_, rfl⟩
  have v1 : S.tmod 256 = R := by rw [Int.tmod_eq_emod_of_nonneg hb0]; exact hR
  have v2 : (R != 0) = true := by rw [← hR, hmod]; simpa using h
  have v3 : IntKind.i64.wrap R = R := IntWalk.i64_in _ (by omega)
  clear hR hmod
  replace h := Lib.hid h
  obtain ⟨W0, hW0⟩ : ∃ W, W = w.alloc (.cells #[.int .i64 0, .int .i64 0, .int .i64 0, .int .i64 0, .int .i64 0] 25) := ⟨_, rfl⟩
  have B0 := Lib.hid (show Below w.heap.size w W0 by rw [hW0]; exact (Below.refl _ _).alloc (Nat.le_refl _) _)
  have X0 := Lib.hid (show W0.heap[w.heap.size]? = some (.cells #[.int .i64 0, .int .i64 0, .int .i64 0, .int .i64 0, .int .i64 0] 25 (0, 0)) by rw [hW0]; exact heap_alloc_new w _)
  have L0 := Lib.hid (show w.heap.size < W0.heap.size by rw [hW0]; simp)
  go_enter TryQ.func8, Try.ntmps8
  go_wp2_with fail
  rw [← hW0]
  clear hW0
  go_at_call 18
  (with_reducible refine (hsum.out _).mono ?_)
  rintro e w1 ⟨rfl, hb2⟩
  have X1 := Lib.hid ((hb2.block w.heap.size L0.out).trans X0.out)
  have L1 := Lib.hid (Nat.lt_of_lt_of_le L0.out hb2.size)
  have B1 := Lib.hid (bt B0.out hb2)
  clear hb2 X0 L0 B0
  obtain ⟨B, X⟩ : Hid (Below w.heap.size w w1) ∧ Hid (w1.heap[w.heap.size]? = some (.cells #[.int .i64 0, .int .i64 0, .int .i64 0, .int .i64 0, .int .i64 0] 25 (0, 0))) := ⟨B1, X1⟩
  clear B1 X1 L1
  have hblk := X.out
  obtain ⟨W9, hW9⟩ : ∃ W9, W9 = (((((w1.setCell ⟨w.heap.size, 0, none⟩ (.int .i64 0)).setCell ⟨w.heap.size, 1, none⟩ (.int .i64 0)).setCell ⟨w.heap.size, 2, none⟩ (.int .i64 0)).setCell ⟨w.heap.size, 3, none⟩ (.int .i64 0)).setCell ⟨w.heap.size, 4, none⟩ (.int .i64 0)) := ⟨_, rfl⟩
  have hW := (((((Wrote.start hblk).set (i := 0) (.int .i64 0)).set (i := 1) (.int .i64 0)).set (i := 2) (.int .i64 0)).set (i := 3) (.int .i64 0)).set (i := 4) (.int .i64 0)
  rw [← hW9] at hW
  replace hW9 := Lib.hid hW9
  have hB9 := Lib.hid (show Below w.heap.size w W9 from B.out.trans hW.below)
  have y0 : W9.cell? ⟨w.heap.size, 0, none⟩ = some (.int .i64 0) := Joins.cell_of_block hW.at_ 0
  have y1 : W9.cell? ⟨w.heap.size, 1, none⟩ = some (.int .i64 0) := Joins.cell_of_block hW.at_ 1
  have y2 : W9.cell? ⟨w.heap.size, 2, none⟩ = some (.int .i64 0) := Joins.cell_of_block hW.at_ 2
  have y3 : W9.cell? ⟨w.heap.size, 3, none⟩ = some (.int .i64 0) := Joins.cell_of_block hW.at_ 3
  have y4 : W9.cell? ⟨w.heap.size, 4, none⟩ = some (.int .i64 0) := Joins.cell_of_block hW.at_ 4
  have e0 : w1.cell? ⟨w.heap.size, 0, none⟩ = some (.int .i64 0) := Joins.cell_of_block hblk 0
  have e1 : w1.cell? ⟨w.heap.size, 1, none⟩ = some (.int .i64 0) := Joins.cell_of_block hblk 1
  have e2 : w1.cell? ⟨w.heap.size, 2, none⟩ = some (.int .i64 0) := Joins.cell_of_block hblk 2
  have e3 : w1.cell? ⟨w.heap.size, 3, none⟩ = some (.int .i64 0) := Joins.cell_of_block hblk 3
  have e4 : w1.cell? ⟨w.heap.size, 4, none⟩ = some (.int .i64 0) := Joins.cell_of_block hblk 4
  have f0 : w1.frozen? ⟨w.heap.size, 0, none⟩ = false := Joins.unfrozen_of_block hblk 0
  have f1 : w1.frozen? ⟨w.heap.size, 1, none⟩ = false := Joins.unfrozen_of_block hblk 1
  have f2 : w1.frozen? ⟨w.heap.size, 2, none⟩ = false := Joins.unfrozen_of_block hblk 2
  have f3 : w1.frozen? ⟨w.heap.size, 3, none⟩ = false := Joins.unfrozen_of_block hblk 3
  have f4 : w1.frozen? ⟨w.heap.size, 4, none⟩ = false := Joins.unfrozen_of_block hblk 4
  clear hblk hW X B
  go_wp2_with fail
  rw [← hW9.out]
  refine bodyPost_ret (v := .tuple #[cv 0 0 0 0 0, .int .i64 9]) (by simp [results, Try.results8, go_sem, y0, y1, y2, y3, y4]) rfl ⟨rfl, hB9.out⟩
set_option maxHeartbeats 4000000 in
theorem b_parse_word (s : ByteArray) (w : World) (hs : s.size = 12) (h : sumTo (gb s) 12 = 0) (hz : gb s 0 ≠ 0) : Calls TryQ.prog 8 #[.string s] w fun e w' => e = .returned (.tuple #[cv 0 0 0 0 0, .int .i64 10]) ∧ Below w.heap.size w w' := by
  have hS0 := allTo_bd s 12
  obtain ⟨S, hS⟩ : ∃ S, allTo (gb s) 12 = S := ⟨_, rfl⟩
  have hmod := allTo_mod (gb s) 12
  rw [hS] at hS0 hmod
  obtain ⟨hb0, hb1⟩ := hS0
  have hsum := Lib.hid (fun W => (by
    have := b_sum s (by omega) W
    rw [hs, hS] at this
    exact this : Calls TryQ.prog 18 #[.string s] W fun e w' => e = .returned (.int .i64 S) ∧ Below W.heap.size W w'))
  clear hS
  have v1 : S.tmod 256 = 0 := by rw [Int.tmod_eq_emod_of_nonneg hb0, hmod]; exact h
  clear hmod
  have b0 : 0 < s.size := by omega
  have z0 := get_gb s 0 b0
  have hcfg := Lib.hid (fun W => b_config s W hs)
  replace h := Lib.hid h
  have zb : (((s[0]'b0).toNat : Int) != 0) = true := by rw [z0]; simpa using hz
  replace hz := Lib.hid hz
  clear z0
  obtain ⟨W0, hW0⟩ : ∃ W, W = w.alloc (.cells #[.int .i64 0, .int .i64 0, .int .i64 0, .int .i64 0, .int .i64 0] 25) := ⟨_, rfl⟩
  have B0 := Lib.hid (show Below w.heap.size w W0 by rw [hW0]; exact (Below.refl _ _).alloc (Nat.le_refl _) _)
  have X0 := Lib.hid (show W0.heap[w.heap.size]? = some (.cells #[.int .i64 0, .int .i64 0, .int .i64 0, .int .i64 0, .int .i64 0] 25 (0, 0)) by rw [hW0]; exact heap_alloc_new w _)
  have L0 := Lib.hid (show w.heap.size < W0.heap.size by rw [hW0]; simp)
  go_enter TryQ.func8, Try.ntmps8
  go_wp2_with fail
  rw [← hW0]
  clear hW0
  go_at_call 18
  (with_reducible refine (hsum.out _).mono ?_)
  rintro e w1 ⟨rfl, hb2⟩
  have X1 := Lib.hid ((hb2.block w.heap.size L0.out).trans X0.out)
  have L1 := Lib.hid (Nat.lt_of_lt_of_le L0.out hb2.size)
  have B1 := Lib.hid (bt B0.out hb2)
  clear hb2 X0 L0 B0
  go_wp2_with fail
  go_at_call 21
  (with_reducible refine (hcfg.out _).mono ?_)
  rintro e w2 ⟨rfl, hb3⟩
  have X2 := Lib.hid ((hb3.block w.heap.size L1.out).trans X1.out)
  have L2 := Lib.hid (Nat.lt_of_lt_of_le L1.out hb3.size)
  have B2 := Lib.hid (bt B1.out hb3)
  clear hb3 X1 L1 B1
  obtain ⟨W3, hW3⟩ : ∃ W, W = w2.alloc (.cells #[.int .i64 (rd s 1 3), .int .i64 (rd s 3 7), .int .i64 (rd s 7 9), .int .i64 (rd s 9 10), .int .i64 (rd s 10 11)] 25) := ⟨_, rfl⟩
  have B3 := Lib.hid (show Below w.heap.size w W3 by rw [hW3]; exact B2.out.alloc (Nat.le_of_lt L2.out) _)
  have X3 := Lib.hid (show W3.heap[w.heap.size]? = some (.cells #[.int .i64 0, .int .i64 0, .int .i64 0, .int .i64 0, .int .i64 0] 25 (0, 0)) by rw [hW3]; exact (((Below.refl w2.heap.size w2).alloc (Nat.le_refl _) _).block _ L2.out).trans X2.out)
  have Y3 := Lib.hid (show W3.heap[w2.heap.size]? = some (.cells #[.int .i64 (rd s 1 3), .int .i64 (rd s 3 7), .int .i64 (rd s 7 9), .int .i64 (rd s 9 10), .int .i64 (rd s 10 11)] 25 (0, 0)) by rw [hW3]; exact heap_alloc_new w2 _)
  have M3 := Lib.hid (show w2.heap.size < W3.heap.size by rw [hW3]; simp)
  have L3 := Lib.hid (show w.heap.size < W3.heap.size from Nat.lt_trans L2.out M3.out)
  clear B2 X2
  obtain ⟨B, X⟩ : Hid (Below w.heap.size w W3) ∧ Hid (W3.heap[w.heap.size]? = some (.cells #[.int .i64 0, .int .i64 0, .int .i64 0, .int .i64 0, .int .i64 0] 25 (0, 0))) := ⟨B3, X3⟩
  have hblk := X.out
  obtain ⟨W9, hW9⟩ : ∃ W9, W9 = (((((W3.setCell ⟨w.heap.size, 0, none⟩ (.int .i64 0)).setCell ⟨w.heap.size, 1, none⟩ (.int .i64 0)).setCell ⟨w.heap.size, 2, none⟩ (.int .i64 0)).setCell ⟨w.heap.size, 3, none⟩ (.int .i64 0)).setCell ⟨w.heap.size, 4, none⟩ (.int .i64 0)) := ⟨_, rfl⟩
  have hW := (((((Wrote.start hblk).set (i := 0) (.int .i64 0)).set (i := 1) (.int .i64 0)).set (i := 2) (.int .i64 0)).set (i := 3) (.int .i64 0)).set (i := 4) (.int .i64 0)
  rw [← hW9] at hW
  replace hW9 := Lib.hid hW9
  have hB9 := Lib.hid (show Below w.heap.size w W9 from B.out.trans hW.below)
  have y0 : W9.cell? ⟨w.heap.size, 0, none⟩ = some (.int .i64 0) := Joins.cell_of_block hW.at_ 0
  have y1 : W9.cell? ⟨w.heap.size, 1, none⟩ = some (.int .i64 0) := Joins.cell_of_block hW.at_ 1
  have y2 : W9.cell? ⟨w.heap.size, 2, none⟩ = some (.int .i64 0) := Joins.cell_of_block hW.at_ 2
  have y3 : W9.cell? ⟨w.heap.size, 3, none⟩ = some (.int .i64 0) := Joins.cell_of_block hW.at_ 3
  have y4 : W9.cell? ⟨w.heap.size, 4, none⟩ = some (.int .i64 0) := Joins.cell_of_block hW.at_ 4
  have e0 : W3.cell? ⟨w.heap.size, 0, none⟩ = some (.int .i64 0) := Joins.cell_of_block hblk 0
  have e1 : W3.cell? ⟨w.heap.size, 1, none⟩ = some (.int .i64 0) := Joins.cell_of_block hblk 1
  have e2 : W3.cell? ⟨w.heap.size, 2, none⟩ = some (.int .i64 0) := Joins.cell_of_block hblk 2
  have e3 : W3.cell? ⟨w.heap.size, 3, none⟩ = some (.int .i64 0) := Joins.cell_of_block hblk 3
  have e4 : W3.cell? ⟨w.heap.size, 4, none⟩ = some (.int .i64 0) := Joins.cell_of_block hblk 4
  have f0 : W3.frozen? ⟨w.heap.size, 0, none⟩ = false := Joins.unfrozen_of_block hblk 0
  have f1 : W3.frozen? ⟨w.heap.size, 1, none⟩ = false := Joins.unfrozen_of_block hblk 1
  have f2 : W3.frozen? ⟨w.heap.size, 2, none⟩ = false := Joins.unfrozen_of_block hblk 2
  have f3 : W3.frozen? ⟨w.heap.size, 3, none⟩ = false := Joins.unfrozen_of_block hblk 3
  have f4 : W3.frozen? ⟨w.heap.size, 4, none⟩ = false := Joins.unfrozen_of_block hblk 4
  clear hblk hW X B
  rw [hW3] at e0 e1 e2 e3 e4 f0 f1 f2 f3 f4 hW9
  clear hW3 B3 X3 Y3 M3 L3 L2
  go_wp2_with fail
  rw [← hW9.out]
  refine bodyPost_ret (v := .tuple #[cv 0 0 0 0 0, .int .i64 10]) (by simp [results, Try.results8, go_sem, y0, y1, y2, y3, y4]) rfl ⟨rfl, hB9.out⟩
set_option maxHeartbeats 4000000 in
theorem b_parse_bad (s : ByteArray) (w : World) (hs : s.size = 12) (h : sumTo (gb s) 12 = 0) (hz : gb s 0 = 0) (hok : okC (rd s 1 3) (rd s 3 7) (rd s 7 9) (rd s 9 10) (rd s 10 11) = false) : Calls TryQ.prog 8 #[.string s] w fun e w' => e = .returned (.tuple #[cv 0 0 0 0 0, .int .i64 10]) ∧ Below w.heap.size w w' := by
  have hS0 := allTo_bd s 12
  obtain ⟨S, hS⟩ : ∃ S, allTo (gb s) 12 = S := ⟨_, rfl⟩
  have hmod := allTo_mod (gb s) 12
  rw [hS] at hS0 hmod
  obtain ⟨hb0, hb1⟩ := hS0
  have hsum := Lib.hid (fun W => (by
    have := b_sum s (by omega) W
    rw [hs, hS] at this
    exact this : Calls TryQ.prog 18 #[.string s] W fun e w' => e = .returned (.int .i64 S) ∧ Below W.heap.size W w'))
  clear hS
  have v1 : S.tmod 256 = 0 := by rw [Int.tmod_eq_emod_of_nonneg hb0, hmod]; exact h
  clear hmod
  have b0 : 0 < s.size := by omega
  have z0 := get_gb s 0 b0
  have hcfg := Lib.hid (fun W => b_config s W hs)
  replace h := Lib.hid h
  have zb : (((s[0]'b0).toNat : Int) != 0) = false := by rw [z0, hz]; rfl
  have hrt := Lib.hid (fun W => b_right_is _ _ _ _ _ _ hok W)
  replace hz := Lib.hid hz
  clear z0 hok
  obtain ⟨W0, hW0⟩ : ∃ W, W = w.alloc (.cells #[.int .i64 0, .int .i64 0, .int .i64 0, .int .i64 0, .int .i64 0] 25) := ⟨_, rfl⟩
  have B0 := Lib.hid (show Below w.heap.size w W0 by rw [hW0]; exact (Below.refl _ _).alloc (Nat.le_refl _) _)
  have X0 := Lib.hid (show W0.heap[w.heap.size]? = some (.cells #[.int .i64 0, .int .i64 0, .int .i64 0, .int .i64 0, .int .i64 0] 25 (0, 0)) by rw [hW0]; exact heap_alloc_new w _)
  have L0 := Lib.hid (show w.heap.size < W0.heap.size by rw [hW0]; simp)
  go_enter TryQ.func8, Try.ntmps8
  go_wp2_with fail
  rw [← hW0]
  clear hW0
  go_at_call 18
  (with_reducible refine (hsum.out _).mono ?_)
  rintro e w1 ⟨rfl, hb2⟩
  have X1 := Lib.hid ((hb2.block w.heap.size L0.out).trans X0.out)
  have L1 := Lib.hid (Nat.lt_of_lt_of_le L0.out hb2.size)
  have B1 := Lib.hid (bt B0.out hb2)
  clear hb2 X0 L0 B0
  go_wp2_with fail
  go_at_call 21
  (with_reducible refine (hcfg.out _).mono ?_)
  rintro e w2 ⟨rfl, hb3⟩
  have X2 := Lib.hid ((hb3.block w.heap.size L1.out).trans X1.out)
  have L2 := Lib.hid (Nat.lt_of_lt_of_le L1.out hb3.size)
  have B2 := Lib.hid (bt B1.out hb3)
  clear hb3 X1 L1 B1
  obtain ⟨W3, hW3⟩ : ∃ W, W = w2.alloc (.cells #[.int .i64 (rd s 1 3), .int .i64 (rd s 3 7), .int .i64 (rd s 7 9), .int .i64 (rd s 9 10), .int .i64 (rd s 10 11)] 25) := ⟨_, rfl⟩
  have B3 := Lib.hid (show Below w.heap.size w W3 by rw [hW3]; exact B2.out.alloc (Nat.le_of_lt L2.out) _)
  have X3 := Lib.hid (show W3.heap[w.heap.size]? = some (.cells #[.int .i64 0, .int .i64 0, .int .i64 0, .int .i64 0, .int .i64 0] 25 (0, 0)) by rw [hW3]; exact (((Below.refl w2.heap.size w2).alloc (Nat.le_refl _) _).block _ L2.out).trans X2.out)
  have Y3 := Lib.hid (show W3.heap[w2.heap.size]? = some (.cells #[.int .i64 (rd s 1 3), .int .i64 (rd s 3 7), .int .i64 (rd s 7 9), .int .i64 (rd s 9 10), .int .i64 (rd s 10 11)] 25 (0, 0)) by rw [hW3]; exact heap_alloc_new w2 _)
  have M3 := Lib.hid (show w2.heap.size < W3.heap.size by rw [hW3]; simp)
  have L3 := Lib.hid (show w.heap.size < W3.heap.size from Nat.lt_trans L2.out M3.out)
  clear B2 X2
  have c0 : W3.cell? ⟨w2.heap.size, 0, none⟩ = some (.int .i64 (rd s 1 3)) := Joins.cell_of_block Y3.out 0
  have c1 : W3.cell? ⟨w2.heap.size, 1, none⟩ = some (.int .i64 (rd s 3 7)) := Joins.cell_of_block Y3.out 1
  have c2 : W3.cell? ⟨w2.heap.size, 2, none⟩ = some (.int .i64 (rd s 7 9)) := Joins.cell_of_block Y3.out 2
  have c3 : W3.cell? ⟨w2.heap.size, 3, none⟩ = some (.int .i64 (rd s 9 10)) := Joins.cell_of_block Y3.out 3
  have c4 : W3.cell? ⟨w2.heap.size, 4, none⟩ = some (.int .i64 (rd s 10 11)) := Joins.cell_of_block Y3.out 4
  rw [hW3] at c0 c1 c2 c3 c4
  go_wp2_with fail
  rw [← hW3]
  clear hW3 c0 c1 c2 c3 c4
  go_at_call 12
  (with_reducible refine (hrt.out _).mono ?_)
  rintro e w4 ⟨rfl, hb4⟩
  have X := Lib.hid ((hb4.block w.heap.size L3.out).trans X3.out)
  have Y := Lib.hid ((hb4.block w2.heap.size M3.out).trans Y3.out)
  have B := Lib.hid (bt B3.out hb4)
  clear hb4 X3 Y3 B3 L3 M3 L2
  have c0 : w4.cell? ⟨w2.heap.size, 0, none⟩ = some (.int .i64 (rd s 1 3)) := Joins.cell_of_block Y.out 0
  have c1 : w4.cell? ⟨w2.heap.size, 1, none⟩ = some (.int .i64 (rd s 3 7)) := Joins.cell_of_block Y.out 1
  have c2 : w4.cell? ⟨w2.heap.size, 2, none⟩ = some (.int .i64 (rd s 7 9)) := Joins.cell_of_block Y.out 2
  have c3 : w4.cell? ⟨w2.heap.size, 3, none⟩ = some (.int .i64 (rd s 9 10)) := Joins.cell_of_block Y.out 3
  have c4 : w4.cell? ⟨w2.heap.size, 4, none⟩ = some (.int .i64 (rd s 10 11)) := Joins.cell_of_block Y.out 4
  clear Y
  have hblk := X.out
  obtain ⟨W9, hW9⟩ : ∃ W9, W9 = (((((w4.setCell ⟨w.heap.size, 0, none⟩ (.int .i64 0)).setCell ⟨w.heap.size, 1, none⟩ (.int .i64 0)).setCell ⟨w.heap.size, 2, none⟩ (.int .i64 0)).setCell ⟨w.heap.size, 3, none⟩ (.int .i64 0)).setCell ⟨w.heap.size, 4, none⟩ (.int .i64 0)) := ⟨_, rfl⟩
  have hW := (((((Wrote.start hblk).set (i := 0) (.int .i64 0)).set (i := 1) (.int .i64 0)).set (i := 2) (.int .i64 0)).set (i := 3) (.int .i64 0)).set (i := 4) (.int .i64 0)
  rw [← hW9] at hW
  replace hW9 := Lib.hid hW9
  have hB9 := Lib.hid (show Below w.heap.size w W9 from B.out.trans hW.below)
  have y0 : W9.cell? ⟨w.heap.size, 0, none⟩ = some (.int .i64 0) := Joins.cell_of_block hW.at_ 0
  have y1 : W9.cell? ⟨w.heap.size, 1, none⟩ = some (.int .i64 0) := Joins.cell_of_block hW.at_ 1
  have y2 : W9.cell? ⟨w.heap.size, 2, none⟩ = some (.int .i64 0) := Joins.cell_of_block hW.at_ 2
  have y3 : W9.cell? ⟨w.heap.size, 3, none⟩ = some (.int .i64 0) := Joins.cell_of_block hW.at_ 3
  have y4 : W9.cell? ⟨w.heap.size, 4, none⟩ = some (.int .i64 0) := Joins.cell_of_block hW.at_ 4
  have e0 : w4.cell? ⟨w.heap.size, 0, none⟩ = some (.int .i64 0) := Joins.cell_of_block hblk 0
  have e1 : w4.cell? ⟨w.heap.size, 1, none⟩ = some (.int .i64 0) := Joins.cell_of_block hblk 1
  have e2 : w4.cell? ⟨w.heap.size, 2, none⟩ = some (.int .i64 0) := Joins.cell_of_block hblk 2
  have e3 : w4.cell? ⟨w.heap.size, 3, none⟩ = some (.int .i64 0) := Joins.cell_of_block hblk 3
  have e4 : w4.cell? ⟨w.heap.size, 4, none⟩ = some (.int .i64 0) := Joins.cell_of_block hblk 4
  have f0 : w4.frozen? ⟨w.heap.size, 0, none⟩ = false := Joins.unfrozen_of_block hblk 0
  have f1 : w4.frozen? ⟨w.heap.size, 1, none⟩ = false := Joins.unfrozen_of_block hblk 1
  have f2 : w4.frozen? ⟨w.heap.size, 2, none⟩ = false := Joins.unfrozen_of_block hblk 2
  have f3 : w4.frozen? ⟨w.heap.size, 3, none⟩ = false := Joins.unfrozen_of_block hblk 3
  have f4 : w4.frozen? ⟨w.heap.size, 4, none⟩ = false := Joins.unfrozen_of_block hblk 4
  clear hblk hW X B
  go_wp2_with fail
  rw [← hW9.out]
  refine bodyPost_ret (v := .tuple #[cv 0 0 0 0 0, .int .i64 10]) (by simp [results, Try.results8, go_sem, y0, y1, y2, y3, y4]) rfl ⟨rfl, hB9.out⟩
set_option maxHeartbeats 4000000 in
theorem b_parse_good (s : ByteArray) (w : World) (hs : s.size = 12) (h : sumTo (gb s) 12 = 0) (hz : gb s 0 = 0) (hok : okC (rd s 1 3) (rd s 3 7) (rd s 7 9) (rd s 9 10) (rd s 10 11) = true) : Calls TryQ.prog 8 #[.string s] w fun e w' => e = .returned (.tuple #[cv (rd s 1 3) (rd s 3 7) (rd s 7 9) (rd s 9 10) (rd s 10 11), .int .i64 0]) ∧ Below w.heap.size w w' := by
  have hS0 := allTo_bd s 12
  obtain ⟨S, hS⟩ : ∃ S, allTo (gb s) 12 = S := ⟨_, rfl⟩
  have hmod := allTo_mod (gb s) 12
  rw [hS] at hS0 hmod
  obtain ⟨hb0, hb1⟩ := hS0
  have hsum := Lib.hid (fun W => (by
    have := b_sum s (by omega) W
    rw [hs, hS] at this
    exact this : Calls TryQ.prog 18 #[.string s] W fun e w' => e = .returned (.int .i64 S) ∧ Below W.heap.size W w'))
  clear hS
  have v1 : S.tmod 256 = 0 := by rw [Int.tmod_eq_emod_of_nonneg hb0, hmod]; exact h
  clear hmod
  have b0 : 0 < s.size := by omega
  have z0 := get_gb s 0 b0
  have hcfg := Lib.hid (fun W => b_config s W hs)
  replace h := Lib.hid h
  have zb : (((s[0]'b0).toNat : Int) != 0) = false := by rw [z0, hz]; rfl
  have hrt := Lib.hid (fun W => b_right_is _ _ _ _ _ _ hok W)
  replace hz := Lib.hid hz
  clear z0 hok
  obtain ⟨W0, hW0⟩ : ∃ W, W = w.alloc (.cells #[.int .i64 0, .int .i64 0, .int .i64 0, .int .i64 0, .int .i64 0] 25) := ⟨_, rfl⟩
  have B0 := Lib.hid (show Below w.heap.size w W0 by rw [hW0]; exact (Below.refl _ _).alloc (Nat.le_refl _) _)
  have X0 := Lib.hid (show W0.heap[w.heap.size]? = some (.cells #[.int .i64 0, .int .i64 0, .int .i64 0, .int .i64 0, .int .i64 0] 25 (0, 0)) by rw [hW0]; exact heap_alloc_new w _)
  have L0 := Lib.hid (show w.heap.size < W0.heap.size by rw [hW0]; simp)
  go_enter TryQ.func8, Try.ntmps8
  go_wp2_with fail
  rw [← hW0]
  clear hW0
  go_at_call 18
  (with_reducible refine (hsum.out _).mono ?_)
  rintro e w1 ⟨rfl, hb2⟩
  have X1 := Lib.hid ((hb2.block w.heap.size L0.out).trans X0.out)
  have L1 := Lib.hid (Nat.lt_of_lt_of_le L0.out hb2.size)
  have B1 := Lib.hid (bt B0.out hb2)
  clear hb2 X0 L0 B0
  go_wp2_with fail
  go_at_call 21
  (with_reducible refine (hcfg.out _).mono ?_)
  rintro e w2 ⟨rfl, hb3⟩
  have X2 := Lib.hid ((hb3.block w.heap.size L1.out).trans X1.out)
  have L2 := Lib.hid (Nat.lt_of_lt_of_le L1.out hb3.size)
  have B2 := Lib.hid (bt B1.out hb3)
  clear hb3 X1 L1 B1
  obtain ⟨W3, hW3⟩ : ∃ W, W = w2.alloc (.cells #[.int .i64 (rd s 1 3), .int .i64 (rd s 3 7), .int .i64 (rd s 7 9), .int .i64 (rd s 9 10), .int .i64 (rd s 10 11)] 25) := ⟨_, rfl⟩
  have B3 := Lib.hid (show Below w.heap.size w W3 by rw [hW3]; exact B2.out.alloc (Nat.le_of_lt L2.out) _)
  have X3 := Lib.hid (show W3.heap[w.heap.size]? = some (.cells #[.int .i64 0, .int .i64 0, .int .i64 0, .int .i64 0, .int .i64 0] 25 (0, 0)) by rw [hW3]; exact (((Below.refl w2.heap.size w2).alloc (Nat.le_refl _) _).block _ L2.out).trans X2.out)
  have Y3 := Lib.hid (show W3.heap[w2.heap.size]? = some (.cells #[.int .i64 (rd s 1 3), .int .i64 (rd s 3 7), .int .i64 (rd s 7 9), .int .i64 (rd s 9 10), .int .i64 (rd s 10 11)] 25 (0, 0)) by rw [hW3]; exact heap_alloc_new w2 _)
  have M3 := Lib.hid (show w2.heap.size < W3.heap.size by rw [hW3]; simp)
  have L3 := Lib.hid (show w.heap.size < W3.heap.size from Nat.lt_trans L2.out M3.out)
  clear B2 X2
  have c0 : W3.cell? ⟨w2.heap.size, 0, none⟩ = some (.int .i64 (rd s 1 3)) := Joins.cell_of_block Y3.out 0
  have c1 : W3.cell? ⟨w2.heap.size, 1, none⟩ = some (.int .i64 (rd s 3 7)) := Joins.cell_of_block Y3.out 1
  have c2 : W3.cell? ⟨w2.heap.size, 2, none⟩ = some (.int .i64 (rd s 7 9)) := Joins.cell_of_block Y3.out 2
  have c3 : W3.cell? ⟨w2.heap.size, 3, none⟩ = some (.int .i64 (rd s 9 10)) := Joins.cell_of_block Y3.out 3
  have c4 : W3.cell? ⟨w2.heap.size, 4, none⟩ = some (.int .i64 (rd s 10 11)) := Joins.cell_of_block Y3.out 4
  rw [hW3] at c0 c1 c2 c3 c4
  go_wp2_with fail
  rw [← hW3]
  clear hW3 c0 c1 c2 c3 c4
  go_at_call 12
  (with_reducible refine (hrt.out _).mono ?_)
  rintro e w4 ⟨rfl, hb4⟩
  have X := Lib.hid ((hb4.block w.heap.size L3.out).trans X3.out)
  have Y := Lib.hid ((hb4.block w2.heap.size M3.out).trans Y3.out)
  have B := Lib.hid (bt B3.out hb4)
  clear hb4 X3 Y3 B3 L3 M3 L2
  have c0 : w4.cell? ⟨w2.heap.size, 0, none⟩ = some (.int .i64 (rd s 1 3)) := Joins.cell_of_block Y.out 0
  have c1 : w4.cell? ⟨w2.heap.size, 1, none⟩ = some (.int .i64 (rd s 3 7)) := Joins.cell_of_block Y.out 1
  have c2 : w4.cell? ⟨w2.heap.size, 2, none⟩ = some (.int .i64 (rd s 7 9)) := Joins.cell_of_block Y.out 2
  have c3 : w4.cell? ⟨w2.heap.size, 3, none⟩ = some (.int .i64 (rd s 9 10)) := Joins.cell_of_block Y.out 3
  have c4 : w4.cell? ⟨w2.heap.size, 4, none⟩ = some (.int .i64 (rd s 10 11)) := Joins.cell_of_block Y.out 4
  clear Y
  have hblk := X.out
  obtain ⟨W9, hW9⟩ : ∃ W9, W9 = (((((w4.setCell ⟨w.heap.size, 0, none⟩ (.int .i64 (rd s 1 3))).setCell ⟨w.heap.size, 1, none⟩ (.int .i64 (rd s 3 7))).setCell ⟨w.heap.size, 2, none⟩ (.int .i64 (rd s 7 9))).setCell ⟨w.heap.size, 3, none⟩ (.int .i64 (rd s 9 10))).setCell ⟨w.heap.size, 4, none⟩ (.int .i64 (rd s 10 11))) := ⟨_, rfl⟩
  have hW := (((((Wrote.start hblk).set (i := 0) (.int .i64 (rd s 1 3))).set (i := 1) (.int .i64 (rd s 3 7))).set (i := 2) (.int .i64 (rd s 7 9))).set (i := 3) (.int .i64 (rd s 9 10))).set (i := 4) (.int .i64 (rd s 10 11))
  rw [← hW9] at hW
  replace hW9 := Lib.hid hW9
  have hB9 := Lib.hid (show Below w.heap.size w W9 from B.out.trans hW.below)
  have y0 : W9.cell? ⟨w.heap.size, 0, none⟩ = some (.int .i64 (rd s 1 3)) := Joins.cell_of_block hW.at_ 0
  have y1 : W9.cell? ⟨w.heap.size, 1, none⟩ = some (.int .i64 (rd s 3 7)) := Joins.cell_of_block hW.at_ 1
  have y2 : W9.cell? ⟨w.heap.size, 2, none⟩ = some (.int .i64 (rd s 7 9)) := Joins.cell_of_block hW.at_ 2
  have y3 : W9.cell? ⟨w.heap.size, 3, none⟩ = some (.int .i64 (rd s 9 10)) := Joins.cell_of_block hW.at_ 3
  have y4 : W9.cell? ⟨w.heap.size, 4, none⟩ = some (.int .i64 (rd s 10 11)) := Joins.cell_of_block hW.at_ 4
  have e0 : w4.cell? ⟨w.heap.size, 0, none⟩ = some (.int .i64 0) := Joins.cell_of_block hblk 0
  have e1 : w4.cell? ⟨w.heap.size, 1, none⟩ = some (.int .i64 0) := Joins.cell_of_block hblk 1
  have e2 : w4.cell? ⟨w.heap.size, 2, none⟩ = some (.int .i64 0) := Joins.cell_of_block hblk 2
  have e3 : w4.cell? ⟨w.heap.size, 3, none⟩ = some (.int .i64 0) := Joins.cell_of_block hblk 3
  have e4 : w4.cell? ⟨w.heap.size, 4, none⟩ = some (.int .i64 0) := Joins.cell_of_block hblk 4
  have f0 : w4.frozen? ⟨w.heap.size, 0, none⟩ = false := Joins.unfrozen_of_block hblk 0
  have f1 : w4.frozen? ⟨w.heap.size, 1, none⟩ = false := Joins.unfrozen_of_block hblk 1
  have f2 : w4.frozen? ⟨w.heap.size, 2, none⟩ = false := Joins.unfrozen_of_block hblk 2
  have f3 : w4.frozen? ⟨w.heap.size, 3, none⟩ = false := Joins.unfrozen_of_block hblk 3
  have f4 : w4.frozen? ⟨w.heap.size, 4, none⟩ = false := Joins.unfrozen_of_block hblk 4
  clear hblk hW X B
  go_wp2_with fail
  rw [← hW9.out]
  refine bodyPost_ret (v := .tuple #[cv (rd s 1 3) (rd s 3 7) (rd s 7 9) (rd s 9 10) (rd s 10 11), .int .i64 0]) (by simp [results, Try.results8, go_sem, y0, y1, y2, y3, y4]) rfl ⟨rfl, hB9.out⟩
theorem b_parse_any (s : ByteArray) (w : World) (hs : s.size ≤ maxLen) : Calls TryQ.prog 8 #[.string s] w fun e w' => e = .returned (cTup s) ∧ Below w.heap.size w w' := by
  by_cases h0 : s.size < 12
  · exact (b_parse_short s w hs h0).mono fun e w' ⟨h1, h2⟩ => ⟨by rw [h1, cTup_bad s 7 (by rw [cE, if_pos h0]) (by decide)], h2⟩
  · by_cases h1 : 12 < s.size
    · exact (b_parse_long s w hs h1).mono fun e w' ⟨h2, h3⟩ => ⟨by rw [h2, cTup_bad s 8 (by rw [cE, if_neg h0, if_pos h1]) (by decide)], h3⟩
    · have hz : s.size = 12 := by omega
      by_cases h2 : sumTo (gb s) 12 = 0
      · by_cases h3 : gb s 0 = 0
        · cases h4 : okC (rd s 1 3) (rd s 3 7) (rd s 7 9) (rd s 9 10) (rd s 10 11)
          · exact (b_parse_bad s w hz h2 h3 h4).mono fun e w' ⟨h5, h6⟩ => ⟨by rw [h5, cTup_bad s 10 (by unfold cE; rw [if_neg h0, if_neg h1, if_neg (by rw [h2]; simp), if_neg (by rw [h4]; simp)]) (by decide)], h6⟩
          · exact (b_parse_good s w hz h2 h3 h4).mono fun e w' ⟨h5, h6⟩ => ⟨by rw [h5, cTup_good s (by unfold cE; rw [if_neg h0, if_neg h1, if_neg (by rw [h2]; simp), if_pos ⟨h3, h4⟩])], h6⟩
        · exact (b_parse_word s w hz h2 h3).mono fun e w' ⟨h5, h6⟩ => ⟨by rw [h5, cTup_bad s 10 (by unfold cE; rw [if_neg h0, if_neg h1, if_neg (by rw [h2]; simp), if_neg (fun k => h3 k.1)]) (by decide)], h6⟩
      · exact (b_parse_sum s w hz h2).mono fun e w' ⟨h3, h4⟩ => ⟨by rw [h3, cTup_bad s 9 (by rw [cE, if_neg h0, if_neg h1, if_pos h2]) (by decide)], h4⟩
end Go.Proofs.Ytlgfogllkoabpaa.QMacP
