/-
  Contracts of bpdu.Wrap and bpdu.Unwrap over TryQ.
-/
import Derived.Test.YtlgfogllkoabpaaQOwnE
import Derived.Test.YtlgfogllkoabpaaQFrameA
namespace Go.Proofs.Ytlgfogllkoabpaa.QMacP
open Go.RowKit Go.Sort
set_option linter.unusedVariables false
set_option linter.unusedSimpArgs false
set_option maxRecDepth 100000
set_option maxHeartbeats 4000000 in
theorem b_wrap_no (r c b p a : Int) (w : World) (h : okC r c b p a = false) : Calls TryQ.prog 7 #[cv r c b p a] w fun e w' => e = .returned (.tuple #[.string ⟨#[]⟩, .int .i64 1]) ∧ Below w.heap.size w w' := by
  obtain ⟨W0, hW0⟩ : ∃ W, W = w.alloc (.cells #[.int .i64 r, .int .i64 c, .int .i64 b, .int .i64 p, .int .i64 a] 25) := ⟨_, rfl⟩
  have B0 := Lib.hid (show Below w.heap.size w W0 by rw [hW0]; exact (Below.refl _ _).alloc (Nat.le_refl _) _)
  have X0 := Lib.hid (show W0.heap[w.heap.size]? = some (.cells #[.int .i64 r, .int .i64 c, .int .i64 b, .int .i64 p, .int .i64 a] 25 (0, 0)) by rw [hW0]; exact heap_alloc_new w _)
  have L0 := Lib.hid (show w.heap.size < W0.heap.size by rw [hW0]; simp)
  go_enter TryQ.func7, Try.ntmps7
  go_wp2_with fail
  rw [← hW0]
  clear hW0
  go_at_call 6
  (with_reducible refine (b_print_no _ _ _ _ _ _ h).mono ?_)
  rintro e w1 ⟨rfl, hb1⟩
  have B1 := Lib.hid (bt B0.out hb1)
  clear hb1 B0 X0 L0
  go_wp2_with fail
  refine bodyPost_ret (v := .tuple #[.string ⟨#[]⟩, .int .i64 1]) (by simp [results, Try.results7, go_sem]) rfl ⟨rfl, B1.out⟩
set_option maxHeartbeats 4000000 in
theorem b_wrap_yes (r c b p a : Int) (w : World) (h : okC r c b p a = true) : Calls TryQ.prog 7 #[cv r c b p a] w fun e w' => e = .returned (.tuple #[.string (wBytes r c b p a), .int .i64 0]) ∧ Below w.heap.size w w' := by
  obtain ⟨r0, r1, b0, b1, x0, x1, p0, p1, a0, a1⟩ := okC_yes h
  have hfp := Lib.hid (fun W => (by exact fprint_yes _ _ _ _ W (wrap_ok r c b p a h) : Calls TryQ.prog 19 #[fv 1652522221568 (2199023321088 + b) 32834 (cBytes r c b p a)] W fun e w' => e = .returned (.tuple #[.string (wBytes r c b p a), .int .i64 0]) ∧ Below W.heap.size W w'))
  obtain ⟨W0, hW0⟩ : ∃ W, W = w.alloc (.cells #[.int .i64 r, .int .i64 c, .int .i64 b, .int .i64 p, .int .i64 a] 25) := ⟨_, rfl⟩
  have B0 := Lib.hid (show Below w.heap.size w W0 by rw [hW0]; exact (Below.refl _ _).alloc (Nat.le_refl _) _)
  have X0 := Lib.hid (show W0.heap[w.heap.size]? = some (.cells #[.int .i64 r, .int .i64 c, .int .i64 b, .int .i64 p, .int .i64 a] 25 (0, 0)) by rw [hW0]; exact heap_alloc_new w _)
  have L0 := Lib.hid (show w.heap.size < W0.heap.size by rw [hW0]; simp)
  go_enter TryQ.func7, Try.ntmps7
  go_wp2_with fail
  rw [← hW0]
  clear hW0
  go_at_call 6
  (with_reducible refine (b_print_yes _ _ _ _ _ _ h).mono ?_)
  rintro e w1 ⟨rfl, hb1⟩
  have B1 := Lib.hid (bt B0.out hb1)
  have X1 := (hb1.block w.heap.size L0.out).trans X0.out
  have k2 : w1.cell? ⟨w.heap.size, 2, none⟩ = some (.int .i64 b) := Joins.cell_of_block X1 2
  clear hb1 B0 X0 L0 X1
  go_wp2_with fail
  go_at_call 20
  (with_reducible refine (b_addr b _ (by omega) (by omega)).mono ?_)
  rintro e w2 ⟨rfl, rfl⟩
  go_wp2_with fail
  go_at_call 19
  (with_reducible refine (hfp.out _).mono ?_)
  rintro e w3 ⟨rfl, hb3⟩
  have B3 := Lib.hid (bt B1.out hb3)
  clear hb3 B1 k2
  go_wp2_with fail
  refine bodyPost_ret (v := .tuple #[.string (wBytes r c b p a), .int .i64 0]) (by simp [results, Try.results7, go_sem]) rfl ⟨rfl, B3.out⟩
set_option maxHeartbeats 4000000 in
theorem b_unwrap_bad (s : ByteArray) (w : World) (hs : s.size ≤ maxLen) (n : Int) (hp : pE s = n) (hn : n ≠ 0) : Calls TryQ.prog 9 #[.string s] w fun e w' => e = .returned (.tuple #[cv 0 0 0 0 0, .int .i64 n]) ∧ Below w.heap.size w w' := by
  have hc := Lib.hid (fun W => fparse_bad s n W hs hp hn)
  have hn' : (n != 0) = true := by simpa using hn
  clear hp hn
  replace hs := Lib.hid hs
  obtain ⟨W0, hW0⟩ : ∃ W, W = w.alloc (.cells #[.int .i64 0, .int .i64 0, .int .i64 0, .int .i64 0, .int .i64 0] 25) := ⟨_, rfl⟩
  have B0 := Lib.hid (show Below w.heap.size w W0 by rw [hW0]; exact (Below.refl _ _).alloc (Nat.le_refl _) _)
  have X0 := Lib.hid (show W0.heap[w.heap.size]? = some (.cells #[.int .i64 0, .int .i64 0, .int .i64 0, .int .i64 0, .int .i64 0] 25 (0, 0)) by rw [hW0]; exact heap_alloc_new w _)
  have L0 := Lib.hid (show w.heap.size < W0.heap.size by rw [hW0]; simp)
  go_enter TryQ.func9, Try.ntmps9
  go_wp2_with fail
  rw [← hW0]
  clear hW0
  go_at_call 22
  (with_reducible refine (hc.out _).mono ?_)
  rintro e w1 ⟨rfl, hb1⟩
  have X1 := Lib.hid ((hb1.block w.heap.size L0.out).trans X0.out)
  have L1 := Lib.hid (Nat.lt_of_lt_of_le L0.out hb1.size)
  have B1 := Lib.hid (bt B0.out hb1)
  clear hb1 X0 L0 B0
  obtain ⟨W2, hW2⟩ : ∃ W, W = w1.alloc (.cells #[.int .i64 0, .int .i64 0, .int .i64 0, .string ⟨#[]⟩] 43) := ⟨_, rfl⟩
  have B2 := Lib.hid (show Below w.heap.size w W2 by rw [hW2]; exact B1.out.alloc (Nat.le_of_lt L1.out) _)
  have X2 := Lib.hid (show W2.heap[w.heap.size]? = some (.cells #[.int .i64 0, .int .i64 0, .int .i64 0, .int .i64 0, .int .i64 0] 25 (0, 0)) by rw [hW2]; exact (((Below.refl w1.heap.size w1).alloc (Nat.le_refl _) _).block _ L1.out).trans X1.out)
  have Y2 := Lib.hid (show W2.heap[w1.heap.size]? = some (.cells #[.int .i64 0, .int .i64 0, .int .i64 0, .string ⟨#[]⟩] 43 (0, 0)) by rw [hW2]; exact heap_alloc_new w1 _)
  have M2 := Lib.hid (show w1.heap.size < W2.heap.size by rw [hW2]; simp)
  have L2 := Lib.hid (show w.heap.size < W2.heap.size from Nat.lt_trans L1.out M2.out)
  clear B1 X1
  obtain ⟨B, X⟩ : Hid (Below w.heap.size w W2) ∧ Hid (W2.heap[w.heap.size]? = some (.cells #[.int .i64 0, .int .i64 0, .int .i64 0, .int .i64 0, .int .i64 0] 25 (0, 0))) := ⟨B2, X2⟩
  have hblk := X.out
  obtain ⟨W9, hW9⟩ : ∃ W9, W9 = (((((W2.setCell ⟨w.heap.size, 0, none⟩ (.int .i64 0)).setCell ⟨w.heap.size, 1, none⟩ (.int .i64 0)).setCell ⟨w.heap.size, 2, none⟩ (.int .i64 0)).setCell ⟨w.heap.size, 3, none⟩ (.int .i64 0)).setCell ⟨w.heap.size, 4, none⟩ (.int .i64 0)) := ⟨_, rfl⟩
  have hW := (((((Wrote.start hblk).set (i := 0) (.int .i64 0)).set (i := 1) (.int .i64 0)).set (i := 2) (.int .i64 0)).set (i := 3) (.int .i64 0)).set (i := 4) (.int .i64 0)
  rw [← hW9] at hW
  replace hW9 := Lib.hid hW9
  have hB9 := Lib.hid (show Below w.heap.size w W9 from B.out.trans hW.below)
  have y0 : W9.cell? ⟨w.heap.size, 0, none⟩ = some (.int .i64 0) := Joins.cell_of_block hW.at_ 0
  have y1 : W9.cell? ⟨w.heap.size, 1, none⟩ = some (.int .i64 0) := Joins.cell_of_block hW.at_ 1
  have y2 : W9.cell? ⟨w.heap.size, 2, none⟩ = some (.int .i64 0) := Joins.cell_of_block hW.at_ 2
  have y3 : W9.cell? ⟨w.heap.size, 3, none⟩ = some (.int .i64 0) := Joins.cell_of_block hW.at_ 3
  have y4 : W9.cell? ⟨w.heap.size, 4, none⟩ = some (.int .i64 0) := Joins.cell_of_block hW.at_ 4
  have e0 : W2.cell? ⟨w.heap.size, 0, none⟩ = some (.int .i64 0) := Joins.cell_of_block hblk 0
  have e1 : W2.cell? ⟨w.heap.size, 1, none⟩ = some (.int .i64 0) := Joins.cell_of_block hblk 1
  have e2 : W2.cell? ⟨w.heap.size, 2, none⟩ = some (.int .i64 0) := Joins.cell_of_block hblk 2
  have e3 : W2.cell? ⟨w.heap.size, 3, none⟩ = some (.int .i64 0) := Joins.cell_of_block hblk 3
  have e4 : W2.cell? ⟨w.heap.size, 4, none⟩ = some (.int .i64 0) := Joins.cell_of_block hblk 4
  have f0 : W2.frozen? ⟨w.heap.size, 0, none⟩ = false := Joins.unfrozen_of_block hblk 0
  have f1 : W2.frozen? ⟨w.heap.size, 1, none⟩ = false := Joins.unfrozen_of_block hblk 1
  have f2 : W2.frozen? ⟨w.heap.size, 2, none⟩ = false := Joins.unfrozen_of_block hblk 2
  have f3 : W2.frozen? ⟨w.heap.size, 3, none⟩ = false := Joins.unfrozen_of_block hblk 3
  have f4 : W2.frozen? ⟨w.heap.size, 4, none⟩ = false := Joins.unfrozen_of_block hblk 4
  clear hblk hW X B
  rw [hW2] at e0 e1 e2 e3 e4 f0 f1 f2 f3 f4 hW9
  clear hW2 B2 X2 Y2 M2 L2 L1
  go_wp2_with fail
  rw [← hW9.out]
  refine bodyPost_ret (v := .tuple #[cv 0 0 0 0 0, .int .i64 n]) (by simp [results, Try.results9, go_sem, y0, y1, y2, y3, y4]) rfl ⟨rfl, hB9.out⟩
set_option maxHeartbeats 4000000 in
theorem b_unwrap_dst (s : ByteArray) (w : World) (hs : s.size ≤ maxLen) (hp : pE s = 0) (hd : adr s 0 ≠ 1652522221568) : Calls TryQ.prog 9 #[.string s] w fun e w' => e = .returned (.tuple #[cv 0 0 0 0 0, .int .i64 10]) ∧ Below w.heap.size w w' := by
  have hc := Lib.hid (fun W => fparse_good s W hs hp)
  replace hs := Lib.hid hs
  replace hp := Lib.hid hp
  have k1 : (adr s 0 != 1652522221568) = true := by simpa using hd
  replace hd := Lib.hid hd
  obtain ⟨W0, hW0⟩ : ∃ W, W = w.alloc (.cells #[.int .i64 0, .int .i64 0, .int .i64 0, .int .i64 0, .int .i64 0] 25) := ⟨_, rfl⟩
  have B0 := Lib.hid (show Below w.heap.size w W0 by rw [hW0]; exact (Below.refl _ _).alloc (Nat.le_refl _) _)
  have X0 := Lib.hid (show W0.heap[w.heap.size]? = some (.cells #[.int .i64 0, .int .i64 0, .int .i64 0, .int .i64 0, .int .i64 0] 25 (0, 0)) by rw [hW0]; exact heap_alloc_new w _)
  have L0 := Lib.hid (show w.heap.size < W0.heap.size by rw [hW0]; simp)
  go_enter TryQ.func9, Try.ntmps9
  go_wp2_with fail
  rw [← hW0]
  clear hW0
  go_at_call 22
  (with_reducible refine (hc.out _).mono ?_)
  rintro e w1 ⟨rfl, hb1⟩
  have X1 := Lib.hid ((hb1.block w.heap.size L0.out).trans X0.out)
  have L1 := Lib.hid (Nat.lt_of_lt_of_le L0.out hb1.size)
  have B1 := Lib.hid (bt B0.out hb1)
  clear hb1 X0 L0 B0
  obtain ⟨W2, hW2⟩ : ∃ W, W = w1.alloc (.cells #[.int .i64 (adr s 0), .int .i64 (adr s 6), .int .i64 (typ s), .string (dat s)] 43) := ⟨_, rfl⟩
  have B2 := Lib.hid (show Below w.heap.size w W2 by rw [hW2]; exact B1.out.alloc (Nat.le_of_lt L1.out) _)
  have X2 := Lib.hid (show W2.heap[w.heap.size]? = some (.cells #[.int .i64 0, .int .i64 0, .int .i64 0, .int .i64 0, .int .i64 0] 25 (0, 0)) by rw [hW2]; exact (((Below.refl w1.heap.size w1).alloc (Nat.le_refl _) _).block _ L1.out).trans X1.out)
  have Y2 := Lib.hid (show W2.heap[w1.heap.size]? = some (.cells #[.int .i64 (adr s 0), .int .i64 (adr s 6), .int .i64 (typ s), .string (dat s)] 43 (0, 0)) by rw [hW2]; exact heap_alloc_new w1 _)
  have M2 := Lib.hid (show w1.heap.size < W2.heap.size by rw [hW2]; simp)
  have L2 := Lib.hid (show w.heap.size < W2.heap.size from Nat.lt_trans L1.out M2.out)
  clear B1 X1
  obtain ⟨B, X⟩ : Hid (Below w.heap.size w W2) ∧ Hid (W2.heap[w.heap.size]? = some (.cells #[.int .i64 0, .int .i64 0, .int .i64 0, .int .i64 0, .int .i64 0] 25 (0, 0))) := ⟨B2, X2⟩
  have hblk := X.out
  obtain ⟨W9, hW9⟩ : ∃ W9, W9 = (((((W2.setCell ⟨w.heap.size, 0, none⟩ (.int .i64 0)).setCell ⟨w.heap.size, 1, none⟩ (.int .i64 0)).setCell ⟨w.heap.size, 2, none⟩ (.int .i64 0)).setCell ⟨w.heap.size, 3, none⟩ (.int .i64 0)).setCell ⟨w.heap.size, 4, none⟩ (.int .i64 0)) := ⟨_, rfl⟩
  have hW := (((((Wrote.start hblk).set (i := 0) (.int .i64 0)).set (i := 1) (.int .i64 0)).set (i := 2) (.int .i64 0)).set (i := 3) (.int .i64 0)).set (i := 4) (.int .i64 0)
  rw [← hW9] at hW
  replace hW9 := Lib.hid hW9
  have hB9 := Lib.hid (show Below w.heap.size w W9 from B.out.trans hW.below)
  have y0 : W9.cell? ⟨w.heap.size, 0, none⟩ = some (.int .i64 0) := Joins.cell_of_block hW.at_ 0
  have y1 : W9.cell? ⟨w.heap.size, 1, none⟩ = some (.int .i64 0) := Joins.cell_of_block hW.at_ 1
  have y2 : W9.cell? ⟨w.heap.size, 2, none⟩ = some (.int .i64 0) := Joins.cell_of_block hW.at_ 2
  have y3 : W9.cell? ⟨w.heap.size, 3, none⟩ = some (.int .i64 0) := Joins.cell_of_block hW.at_ 3
  have y4 : W9.cell? ⟨w.heap.size, 4, none⟩ = some (.int .i64 0) := Joins.cell_of_block hW.at_ 4
  have e0 : W2.cell? ⟨w.heap.size, 0, none⟩ = some (.int .i64 0) := Joins.cell_of_block hblk 0
  have e1 : W2.cell? ⟨w.heap.size, 1, none⟩ = some (.int .i64 0) := Joins.cell_of_block hblk 1
  have e2 : W2.cell? ⟨w.heap.size, 2, none⟩ = some (.int .i64 0) := Joins.cell_of_block hblk 2
  have e3 : W2.cell? ⟨w.heap.size, 3, none⟩ = some (.int .i64 0) := Joins.cell_of_block hblk 3
  have e4 : W2.cell? ⟨w.heap.size, 4, none⟩ = some (.int .i64 0) := Joins.cell_of_block hblk 4
  have f0 : W2.frozen? ⟨w.heap.size, 0, none⟩ = false := Joins.unfrozen_of_block hblk 0
  have f1 : W2.frozen? ⟨w.heap.size, 1, none⟩ = false := Joins.unfrozen_of_block hblk 1
  have f2 : W2.frozen? ⟨w.heap.size, 2, none⟩ = false := Joins.unfrozen_of_block hblk 2
  have f3 : W2.frozen? ⟨w.heap.size, 3, none⟩ = false := Joins.unfrozen_of_block hblk 3
  have f4 : W2.frozen? ⟨w.heap.size, 4, none⟩ = false := Joins.unfrozen_of_block hblk 4
  clear hblk hW X B
  rw [hW2] at e0 e1 e2 e3 e4 f0 f1 f2 f3 f4 hW9
  clear hW2 B2 X2 Y2 M2 L2 L1
  go_wp2_with fail
  rw [← hW9.out]
  refine bodyPost_ret (v := .tuple #[cv 0 0 0 0 0, .int .i64 10]) (by simp [results, Try.results9, go_sem, y0, y1, y2, y3, y4]) rfl ⟨rfl, hB9.out⟩
set_option maxHeartbeats 4000000 in
theorem b_unwrap_typ (s : ByteArray) (w : World) (hs : s.size ≤ maxLen) (hp : pE s = 0) (hd : adr s 0 = 1652522221568) (ht : typ s ≠ 32834) : Calls TryQ.prog 9 #[.string s] w fun e w' => e = .returned (.tuple #[cv 0 0 0 0 0, .int .i64 10]) ∧ Below w.heap.size w w' := by
  have hc := Lib.hid (fun W => fparse_good s W hs hp)
  replace hs := Lib.hid hs
  replace hp := Lib.hid hp
  have k1 : (adr s 0 != 1652522221568) = false := by rw [hd]; rfl
  have k2 : (typ s != 32834) = true := by simpa using ht
  replace hd := Lib.hid hd
  replace ht := Lib.hid ht
  obtain ⟨W0, hW0⟩ : ∃ W, W = w.alloc (.cells #[.int .i64 0, .int .i64 0, .int .i64 0, .int .i64 0, .int .i64 0] 25) := ⟨_, rfl⟩
  have B0 := Lib.hid (show Below w.heap.size w W0 by rw [hW0]; exact (Below.refl _ _).alloc (Nat.le_refl _) _)
  have X0 := Lib.hid (show W0.heap[w.heap.size]? = some (.cells #[.int .i64 0, .int .i64 0, .int .i64 0, .int .i64 0, .int .i64 0] 25 (0, 0)) by rw [hW0]; exact heap_alloc_new w _)
  have L0 := Lib.hid (show w.heap.size < W0.heap.size by rw [hW0]; simp)
  go_enter TryQ.func9, Try.ntmps9
  go_wp2_with fail
  rw [← hW0]
  clear hW0
  go_at_call 22
  (with_reducible refine (hc.out _).mono ?_)
  rintro e w1 ⟨rfl, hb1⟩
  have X1 := Lib.hid ((hb1.block w.heap.size L0.out).trans X0.out)
  have L1 := Lib.hid (Nat.lt_of_lt_of_le L0.out hb1.size)
  have B1 := Lib.hid (bt B0.out hb1)
  clear hb1 X0 L0 B0
  obtain ⟨W2, hW2⟩ : ∃ W, W = w1.alloc (.cells #[.int .i64 (adr s 0), .int .i64 (adr s 6), .int .i64 (typ s), .string (dat s)] 43) := ⟨_, rfl⟩
  have B2 := Lib.hid (show Below w.heap.size w W2 by rw [hW2]; exact B1.out.alloc (Nat.le_of_lt L1.out) _)
  have X2 := Lib.hid (show W2.heap[w.heap.size]? = some (.cells #[.int .i64 0, .int .i64 0, .int .i64 0, .int .i64 0, .int .i64 0] 25 (0, 0)) by rw [hW2]; exact (((Below.refl w1.heap.size w1).alloc (Nat.le_refl _) _).block _ L1.out).trans X1.out)
  have Y2 := Lib.hid (show W2.heap[w1.heap.size]? = some (.cells #[.int .i64 (adr s 0), .int .i64 (adr s 6), .int .i64 (typ s), .string (dat s)] 43 (0, 0)) by rw [hW2]; exact heap_alloc_new w1 _)
  have M2 := Lib.hid (show w1.heap.size < W2.heap.size by rw [hW2]; simp)
  have L2 := Lib.hid (show w.heap.size < W2.heap.size from Nat.lt_trans L1.out M2.out)
  clear B1 X1
  obtain ⟨B, X⟩ : Hid (Below w.heap.size w W2) ∧ Hid (W2.heap[w.heap.size]? = some (.cells #[.int .i64 0, .int .i64 0, .int .i64 0, .int .i64 0, .int .i64 0] 25 (0, 0))) := ⟨B2, X2⟩
  have hblk := X.out
  obtain ⟨W9, hW9⟩ : ∃ W9, W9 = (((((W2.setCell ⟨w.heap.size, 0, none⟩ (.int .i64 0)).setCell ⟨w.heap.size, 1, none⟩ (.int .i64 0)).setCell ⟨w.heap.size, 2, none⟩ (.int .i64 0)).setCell ⟨w.heap.size, 3, none⟩ (.int .i64 0)).setCell ⟨w.heap.size, 4, none⟩ (.int .i64 0)) := ⟨_, rfl⟩
  have hW := (((((Wrote.start hblk).set (i := 0) (.int .i64 0)).set (i := 1) (.int .i64 0)).set (i := 2) (.int .i64 0)).set (i := 3) (.int .i64 0)).set (i := 4) (.int .i64 0)
  rw [← hW9] at hW
  replace hW9 := Lib.hid hW9
  have hB9 := Lib.hid (show Below w.heap.size w W9 from B.out.trans hW.below)
  have y0 : W9.cell? ⟨w.heap.size, 0, none⟩ = some (.int .i64 0) := Joins.cell_of_block hW.at_ 0
  have y1 : W9.cell? ⟨w.heap.size, 1, none⟩ = some (.int .i64 0) := Joins.cell_of_block hW.at_ 1
  have y2 : W9.cell? ⟨w.heap.size, 2, none⟩ = some (.int .i64 0) := Joins.cell_of_block hW.at_ 2
  have y3 : W9.cell? ⟨w.heap.size, 3, none⟩ = some (.int .i64 0) := Joins.cell_of_block hW.at_ 3
  have y4 : W9.cell? ⟨w.heap.size, 4, none⟩ = some (.int .i64 0) := Joins.cell_of_block hW.at_ 4
  have e0 : W2.cell? ⟨w.heap.size, 0, none⟩ = some (.int .i64 0) := Joins.cell_of_block hblk 0
  have e1 : W2.cell? ⟨w.heap.size, 1, none⟩ = some (.int .i64 0) := Joins.cell_of_block hblk 1
  have e2 : W2.cell? ⟨w.heap.size, 2, none⟩ = some (.int .i64 0) := Joins.cell_of_block hblk 2
  have e3 : W2.cell? ⟨w.heap.size, 3, none⟩ = some (.int .i64 0) := Joins.cell_of_block hblk 3
  have e4 : W2.cell? ⟨w.heap.size, 4, none⟩ = some (.int .i64 0) := Joins.cell_of_block hblk 4
  have f0 : W2.frozen? ⟨w.heap.size, 0, none⟩ = false := Joins.unfrozen_of_block hblk 0
  have f1 : W2.frozen? ⟨w.heap.size, 1, none⟩ = false := Joins.unfrozen_of_block hblk 1
  have f2 : W2.frozen? ⟨w.heap.size, 2, none⟩ = false := Joins.unfrozen_of_block hblk 2
  have f3 : W2.frozen? ⟨w.heap.size, 3, none⟩ = false := Joins.unfrozen_of_block hblk 3
  have f4 : W2.frozen? ⟨w.heap.size, 4, none⟩ = false := Joins.unfrozen_of_block hblk 4
  clear hblk hW X B
  rw [hW2] at e0 e1 e2 e3 e4 f0 f1 f2 f3 f4 hW9
  clear hW2 B2 X2 Y2 M2 L2 L1
  go_wp2_with fail
  rw [← hW9.out]
  refine bodyPost_ret (v := .tuple #[cv 0 0 0 0 0, .int .i64 10]) (by simp [results, Try.results9, go_sem, y0, y1, y2, y3, y4]) rfl ⟨rfl, hB9.out⟩
set_option maxHeartbeats 4000000 in
theorem b_unwrap_data (s : ByteArray) (w : World) (hs : s.size ≤ maxLen) (hp : pE s = 0) (hd : adr s 0 = 1652522221568) (ht : typ s = 32834) (n : Int) (hc0 : cE (dat s) = n) (hn : n ≠ 0) : Calls TryQ.prog 9 #[.string s] w fun e w' => e = .returned (.tuple #[cv 0 0 0 0 0, .int .i64 n]) ∧ Below w.heap.size w w' := by
  have hds : (dat s).size ≤ maxLen := by unfold dat; rw [ByteArray.size_extract]; omega
  have hc := Lib.hid (fun W => fparse_good s W hs hp)
  have hq := Lib.hid (fun W => by
    have := b_parse_any (dat s) W hds
    rw [cTup_bad (dat s) n hc0 hn] at this
    exact this)
  have hn' : (n != 0) = true := by simpa using hn
  clear hc0 hn
  replace hs := Lib.hid hs
  replace hds := Lib.hid hds
  replace hp := Lib.hid hp
  have k1 : (adr s 0 != 1652522221568) = false := by rw [hd]; rfl
  have k2 : (typ s != 32834) = false := by rw [ht]; rfl
  replace hd := Lib.hid hd
  replace ht := Lib.hid ht
  obtain ⟨W0, hW0⟩ : ∃ W, W = w.alloc (.cells #[.int .i64 0, .int .i64 0, .int .i64 0, .int .i64 0, .int .i64 0] 25) := ⟨_, rfl⟩
  have B0 := Lib.hid (show Below w.heap.size w W0 by rw [hW0]; exact (Below.refl _ _).alloc (Nat.le_refl _) _)
  have X0 := Lib.hid (show W0.heap[w.heap.size]? = some (.cells #[.int .i64 0, .int .i64 0, .int .i64 0, .int .i64 0, .int .i64 0] 25 (0, 0)) by rw [hW0]; exact heap_alloc_new w _)
  have L0 := Lib.hid (show w.heap.size < W0.heap.size by rw [hW0]; simp)
  go_enter TryQ.func9, Try.ntmps9
  go_wp2_with fail
  rw [← hW0]
  clear hW0
  go_at_call 22
  (with_reducible refine (hc.out _).mono ?_)
  rintro e w1 ⟨rfl, hb1⟩
  have X1 := Lib.hid ((hb1.block w.heap.size L0.out).trans X0.out)
  have L1 := Lib.hid (Nat.lt_of_lt_of_le L0.out hb1.size)
  have B1 := Lib.hid (bt B0.out hb1)
  clear hb1 X0 L0 B0
  obtain ⟨W2, hW2⟩ : ∃ W, W = w1.alloc (.cells #[.int .i64 (adr s 0), .int .i64 (adr s 6), .int .i64 (typ s), .string (dat s)] 43) := ⟨_, rfl⟩
  have B2 := Lib.hid (show Below w.heap.size w W2 by rw [hW2]; exact B1.out.alloc (Nat.le_of_lt L1.out) _)
  have X2 := Lib.hid (show W2.heap[w.heap.size]? = some (.cells #[.int .i64 0, .int .i64 0, .int .i64 0, .int .i64 0, .int .i64 0] 25 (0, 0)) by rw [hW2]; exact (((Below.refl w1.heap.size w1).alloc (Nat.le_refl _) _).block _ L1.out).trans X1.out)
  have Y2 := Lib.hid (show W2.heap[w1.heap.size]? = some (.cells #[.int .i64 (adr s 0), .int .i64 (adr s 6), .int .i64 (typ s), .string (dat s)] 43 (0, 0)) by rw [hW2]; exact heap_alloc_new w1 _)
  have M2 := Lib.hid (show w1.heap.size < W2.heap.size by rw [hW2]; simp)
  have L2 := Lib.hid (show w.heap.size < W2.heap.size from Nat.lt_trans L1.out M2.out)
  clear B1 X1
  go_wp2_with fail
  rw [← hW2]
  clear hW2
  go_at_call 8
  (with_reducible refine (hq.out _).mono ?_)
  rintro e w3 ⟨rfl, hb3⟩
  have X3 := Lib.hid ((hb3.block w.heap.size L2.out).trans X2.out)
  have Y3 := Lib.hid ((hb3.block w1.heap.size M2.out).trans Y2.out)
  have M3 := Lib.hid (Nat.lt_of_lt_of_le M2.out hb3.size)
  have L3 := Lib.hid (Nat.lt_of_lt_of_le L2.out hb3.size)
  have B3 := Lib.hid (bt B2.out hb3)
  clear hb3 X2 Y2 L2 M2 B2 L1
  obtain ⟨W4, hW4⟩ : ∃ W, W = w3.alloc (.cells #[.int .i64 0, .int .i64 0, .int .i64 0, .int .i64 0, .int .i64 0] 25) := ⟨_, rfl⟩
  have B4 := Lib.hid (show Below w.heap.size w W4 by rw [hW4]; exact B3.out.alloc (Nat.le_of_lt L3.out) _)
  have X4 := Lib.hid (show W4.heap[w.heap.size]? = some (.cells #[.int .i64 0, .int .i64 0, .int .i64 0, .int .i64 0, .int .i64 0] 25 (0, 0)) by rw [hW4]; exact (((Below.refl w3.heap.size w3).alloc (Nat.le_refl _) _).block _ L3.out).trans X3.out)
  clear B3 X3
  obtain ⟨B, X⟩ : Hid (Below w.heap.size w W4) ∧ Hid (W4.heap[w.heap.size]? = some (.cells #[.int .i64 0, .int .i64 0, .int .i64 0, .int .i64 0, .int .i64 0] 25 (0, 0))) := ⟨B4, X4⟩
  have hblk := X.out
  obtain ⟨W9, hW9⟩ : ∃ W9, W9 = (((((W4.setCell ⟨w.heap.size, 0, none⟩ (.int .i64 0)).setCell ⟨w.heap.size, 1, none⟩ (.int .i64 0)).setCell ⟨w.heap.size, 2, none⟩ (.int .i64 0)).setCell ⟨w.heap.size, 3, none⟩ (.int .i64 0)).setCell ⟨w.heap.size, 4, none⟩ (.int .i64 0)) := ⟨_, rfl⟩
  have hW := (((((Wrote.start hblk).set (i := 0) (.int .i64 0)).set (i := 1) (.int .i64 0)).set (i := 2) (.int .i64 0)).set (i := 3) (.int .i64 0)).set (i := 4) (.int .i64 0)
  rw [← hW9] at hW
  replace hW9 := Lib.hid hW9
  have hB9 := Lib.hid (show Below w.heap.size w W9 from B.out.trans hW.below)
  have y0 : W9.cell? ⟨w.heap.size, 0, none⟩ = some (.int .i64 0) := Joins.cell_of_block hW.at_ 0
  have y1 : W9.cell? ⟨w.heap.size, 1, none⟩ = some (.int .i64 0) := Joins.cell_of_block hW.at_ 1
  have y2 : W9.cell? ⟨w.heap.size, 2, none⟩ = some (.int .i64 0) := Joins.cell_of_block hW.at_ 2
  have y3 : W9.cell? ⟨w.heap.size, 3, none⟩ = some (.int .i64 0) := Joins.cell_of_block hW.at_ 3
  have y4 : W9.cell? ⟨w.heap.size, 4, none⟩ = some (.int .i64 0) := Joins.cell_of_block hW.at_ 4
  have e0 : W4.cell? ⟨w.heap.size, 0, none⟩ = some (.int .i64 0) := Joins.cell_of_block hblk 0
  have e1 : W4.cell? ⟨w.heap.size, 1, none⟩ = some (.int .i64 0) := Joins.cell_of_block hblk 1
  have e2 : W4.cell? ⟨w.heap.size, 2, none⟩ = some (.int .i64 0) := Joins.cell_of_block hblk 2
  have e3 : W4.cell? ⟨w.heap.size, 3, none⟩ = some (.int .i64 0) := Joins.cell_of_block hblk 3
  have e4 : W4.cell? ⟨w.heap.size, 4, none⟩ = some (.int .i64 0) := Joins.cell_of_block hblk 4
  have f0 : W4.frozen? ⟨w.heap.size, 0, none⟩ = false := Joins.unfrozen_of_block hblk 0
  have f1 : W4.frozen? ⟨w.heap.size, 1, none⟩ = false := Joins.unfrozen_of_block hblk 1
  have f2 : W4.frozen? ⟨w.heap.size, 2, none⟩ = false := Joins.unfrozen_of_block hblk 2
  have f3 : W4.frozen? ⟨w.heap.size, 3, none⟩ = false := Joins.unfrozen_of_block hblk 3
  have f4 : W4.frozen? ⟨w.heap.size, 4, none⟩ = false := Joins.unfrozen_of_block hblk 4
  clear hblk hW X B
  rw [hW4] at e0 e1 e2 e3 e4 f0 f1 f2 f3 f4 hW9
  clear hW4 B4 X4 Y3 M3 L3
  go_wp2_with fail
  rw [← hW9.out]
  refine bodyPost_ret (v := .tuple #[cv 0 0 0 0 0, .int .i64 n]) (by simp [results, Try.results9, go_sem, y0, y1, y2, y3, y4]) rfl ⟨rfl, hB9.out⟩
set_option maxHeartbeats 4000000 in
theorem b_unwrap_src (s : ByteArray) (w : World) (hs : s.size ≤ maxLen) (hp : pE s = 0) (hd : adr s 0 = 1652522221568) (ht : typ s = 32834) (hc0 : cE (dat s) = 0) (h6 : adr s 6 ≠ 2199023321088 + rd (dat s) 7 9) : Calls TryQ.prog 9 #[.string s] w fun e w' => e = .returned (.tuple #[cv 0 0 0 0 0, .int .i64 10]) ∧ Below w.heap.size w w' := by
  have hds : (dat s).size ≤ maxLen := by unfold dat; rw [ByteArray.size_extract]; omega
  have hc := Lib.hid (fun W => fparse_good s W hs hp)
  obtain ⟨_, _, b0, b1, _⟩ := okC_yes (cE_zero (dat s) hc0).2.2.2
  have ha := Lib.hid (fun W => b_addr (rd (dat s) 7 9) W b0 (by omega))
  have k6 : (adr s 6 != 2199023321088 + rd (dat s) 7 9) = true := by simpa using h6
  replace h6 := Lib.hid h6
  have hq := Lib.hid (fun W => by
    have := b_parse_any (dat s) W hds
    rw [cTup_good (dat s) hc0] at this
    exact this)
  clear hc0 b0 b1
  replace hs := Lib.hid hs
  replace hds := Lib.hid hds
  replace hp := Lib.hid hp
  have k1 : (adr s 0 != 1652522221568) = false := by rw [hd]; rfl
  have k2 : (typ s != 32834) = false := by rw [ht]; rfl
  replace hd := Lib.hid hd
  replace ht := Lib.hid ht
  obtain ⟨W0, hW0⟩ : ∃ W, W = w.alloc (.cells #[.int .i64 0, .int .i64 0, .int .i64 0, .int .i64 0, .int .i64 0] 25) := ⟨_, rfl⟩
  have B0 := Lib.hid (show Below w.heap.size w W0 by rw [hW0]; exact (Below.refl _ _).alloc (Nat.le_refl _) _)
  have X0 := Lib.hid (show W0.heap[w.heap.size]? = some (.cells #[.int .i64 0, .int .i64 0, .int .i64 0, .int .i64 0, .int .i64 0] 25 (0, 0)) by rw [hW0]; exact heap_alloc_new w _)
  have L0 := Lib.hid (show w.heap.size < W0.heap.size by rw [hW0]; simp)
  go_enter TryQ.func9, Try.ntmps9
  go_wp2_with fail
  rw [← hW0]
  clear hW0
  go_at_call 22
  (with_reducible refine (hc.out _).mono ?_)
  rintro e w1 ⟨rfl, hb1⟩
  have X1 := Lib.hid ((hb1.block w.heap.size L0.out).trans X0.out)
  have L1 := Lib.hid (Nat.lt_of_lt_of_le L0.out hb1.size)
  have B1 := Lib.hid (bt B0.out hb1)
  clear hb1 X0 L0 B0
  obtain ⟨W2, hW2⟩ : ∃ W, W = w1.alloc (.cells #[.int .i64 (adr s 0), .int .i64 (adr s 6), .int .i64 (typ s), .string (dat s)] 43) := ⟨_, rfl⟩
  have B2 := Lib.hid (show Below w.heap.size w W2 by rw [hW2]; exact B1.out.alloc (Nat.le_of_lt L1.out) _)
  have X2 := Lib.hid (show W2.heap[w.heap.size]? = some (.cells #[.int .i64 0, .int .i64 0, .int .i64 0, .int .i64 0, .int .i64 0] 25 (0, 0)) by rw [hW2]; exact (((Below.refl w1.heap.size w1).alloc (Nat.le_refl _) _).block _ L1.out).trans X1.out)
  have Y2 := Lib.hid (show W2.heap[w1.heap.size]? = some (.cells #[.int .i64 (adr s 0), .int .i64 (adr s 6), .int .i64 (typ s), .string (dat s)] 43 (0, 0)) by rw [hW2]; exact heap_alloc_new w1 _)
  have M2 := Lib.hid (show w1.heap.size < W2.heap.size by rw [hW2]; simp)
  have L2 := Lib.hid (show w.heap.size < W2.heap.size from Nat.lt_trans L1.out M2.out)
  clear B1 X1
  go_wp2_with fail
  rw [← hW2]
  clear hW2
  go_at_call 8
  (with_reducible refine (hq.out _).mono ?_)
  rintro e w3 ⟨rfl, hb3⟩
  have X3 := Lib.hid ((hb3.block w.heap.size L2.out).trans X2.out)
  have Y3 := Lib.hid ((hb3.block w1.heap.size M2.out).trans Y2.out)
  have M3 := Lib.hid (Nat.lt_of_lt_of_le M2.out hb3.size)
  have L3 := Lib.hid (Nat.lt_of_lt_of_le L2.out hb3.size)
  have B3 := Lib.hid (bt B2.out hb3)
  clear hb3 X2 Y2 L2 M2 B2 L1
  obtain ⟨W4, hW4⟩ : ∃ W, W = w3.alloc (.cells #[.int .i64 (rd (dat s) 1 3), .int .i64 (rd (dat s) 3 7), .int .i64 (rd (dat s) 7 9), .int .i64 (rd (dat s) 9 10), .int .i64 (rd (dat s) 10 11)] 25) := ⟨_, rfl⟩
  have B4 := Lib.hid (show Below w.heap.size w W4 by rw [hW4]; exact B3.out.alloc (Nat.le_of_lt L3.out) _)
  have X4 := Lib.hid (show W4.heap[w.heap.size]? = some (.cells #[.int .i64 0, .int .i64 0, .int .i64 0, .int .i64 0, .int .i64 0] 25 (0, 0)) by rw [hW4]; exact (((Below.refl w3.heap.size w3).alloc (Nat.le_refl _) _).block _ L3.out).trans X3.out)
  clear B3 X3
  have Y4 := Lib.hid (show W4.heap[w1.heap.size]? = some (.cells #[.int .i64 (adr s 0), .int .i64 (adr s 6), .int .i64 (typ s), .string (dat s)] 43 (0, 0)) by rw [hW4]; exact (((Below.refl w3.heap.size w3).alloc (Nat.le_refl _) _).block _ M3.out).trans Y3.out)
  have Z4 := Lib.hid (show W4.heap[w3.heap.size]? = some (.cells #[.int .i64 (rd (dat s) 1 3), .int .i64 (rd (dat s) 3 7), .int .i64 (rd (dat s) 7 9), .int .i64 (rd (dat s) 9 10), .int .i64 (rd (dat s) 10 11)] 25 (0, 0)) by rw [hW4]; exact heap_alloc_new w3 _)
  have N4 := Lib.hid (show w3.heap.size < W4.heap.size by rw [hW4]; simp)
  have L4 := Lib.hid (show w.heap.size < W4.heap.size from Nat.lt_trans L3.out N4.out)
  clear Y3 M3 L3
  go_wp2_with fail
  rw [← hW4]
  clear hW4
  have g1 : W4.cell? ⟨w1.heap.size, 1, none⟩ = some (.int .i64 (adr s 6)) := Joins.cell_of_block Y4.out 1
  have g2 : W4.cell? ⟨w3.heap.size, 2, none⟩ = some (.int .i64 (rd (dat s) 7 9)) := Joins.cell_of_block Z4.out 2
  have K1 := cell_regrown g1
  have K2 := cell_regrown g2
  have n0 : ∀ q os, Calls TryQ.prog 20 #[.int .i64 (rd (dat s) 7 9)] (grow (redrawn W4 q) os) fun e w'' => e = .returned (.int .i64 (2199023321088 + rd (dat s) 7 9)) ∧ ∃ p : Regrown, w'' = grow (redrawn W4 p.d) p.os := fun q os => (ha.out _).mono fun e w' ⟨h1, h2⟩ => ⟨h1, ⟨⟨q, os⟩, h2.symm⟩⟩
  refine wp_region_quiet_below (by kernel_rfl) (by kernel_rfl) ?_
  repeat (first | go_big_quiet_step (with_reducible exact n0 _ _) | quiet_step (with_reducible exact n0 _ _))
  refine wpQuiet_nil ?_
  intro _ hw'
  obtain ⟨⟨dq, osq⟩, hw''⟩ := hw'
  subst hw''
  have hb7 := below_regrown W4 dq osq
  have B := Lib.hid (bt B4.out hb7)
  have X := Lib.hid ((hb7.block w.heap.size L4.out).trans X4.out)
  have Z7 := (hb7.block w3.heap.size N4.out).trans Z4.out
  clear K1 K2 n0 g1 g2 hb7 B4 X4 Y4 Z4 N4 L4
  generalize grow (redrawn W4 dq) osq = W7 at *
  have c0 : W7.cell? ⟨w3.heap.size, 0, none⟩ = some (.int .i64 (rd (dat s) 1 3)) := Joins.cell_of_block Z7 0
  have c1 : W7.cell? ⟨w3.heap.size, 1, none⟩ = some (.int .i64 (rd (dat s) 3 7)) := Joins.cell_of_block Z7 1
  have c2 : W7.cell? ⟨w3.heap.size, 2, none⟩ = some (.int .i64 (rd (dat s) 7 9)) := Joins.cell_of_block Z7 2
  have c3 : W7.cell? ⟨w3.heap.size, 3, none⟩ = some (.int .i64 (rd (dat s) 9 10)) := Joins.cell_of_block Z7 3
  have c4 : W7.cell? ⟨w3.heap.size, 4, none⟩ = some (.int .i64 (rd (dat s) 10 11)) := Joins.cell_of_block Z7 4
  clear Z7
  have hblk := X.out
  obtain ⟨W9, hW9⟩ : ∃ W9, W9 = (((((W7.setCell ⟨w.heap.size, 0, none⟩ (.int .i64 0)).setCell ⟨w.heap.size, 1, none⟩ (.int .i64 0)).setCell ⟨w.heap.size, 2, none⟩ (.int .i64 0)).setCell ⟨w.heap.size, 3, none⟩ (.int .i64 0)).setCell ⟨w.heap.size, 4, none⟩ (.int .i64 0)) := ⟨_, rfl⟩
  have hW := (((((Wrote.start hblk).set (i := 0) (.int .i64 0)).set (i := 1) (.int .i64 0)).set (i := 2) (.int .i64 0)).set (i := 3) (.int .i64 0)).set (i := 4) (.int .i64 0)
  rw [← hW9] at hW
  replace hW9 := Lib.hid hW9
  have hB9 := Lib.hid (show Below w.heap.size w W9 from B.out.trans hW.below)
  have y0 : W9.cell? ⟨w.heap.size, 0, none⟩ = some (.int .i64 0) := Joins.cell_of_block hW.at_ 0
  have y1 : W9.cell? ⟨w.heap.size, 1, none⟩ = some (.int .i64 0) := Joins.cell_of_block hW.at_ 1
  have y2 : W9.cell? ⟨w.heap.size, 2, none⟩ = some (.int .i64 0) := Joins.cell_of_block hW.at_ 2
  have y3 : W9.cell? ⟨w.heap.size, 3, none⟩ = some (.int .i64 0) := Joins.cell_of_block hW.at_ 3
  have y4 : W9.cell? ⟨w.heap.size, 4, none⟩ = some (.int .i64 0) := Joins.cell_of_block hW.at_ 4
  have e0 : W7.cell? ⟨w.heap.size, 0, none⟩ = some (.int .i64 0) := Joins.cell_of_block hblk 0
  have e1 : W7.cell? ⟨w.heap.size, 1, none⟩ = some (.int .i64 0) := Joins.cell_of_block hblk 1
  have e2 : W7.cell? ⟨w.heap.size, 2, none⟩ = some (.int .i64 0) := Joins.cell_of_block hblk 2
  have e3 : W7.cell? ⟨w.heap.size, 3, none⟩ = some (.int .i64 0) := Joins.cell_of_block hblk 3
  have e4 : W7.cell? ⟨w.heap.size, 4, none⟩ = some (.int .i64 0) := Joins.cell_of_block hblk 4
  have f0 : W7.frozen? ⟨w.heap.size, 0, none⟩ = false := Joins.unfrozen_of_block hblk 0
  have f1 : W7.frozen? ⟨w.heap.size, 1, none⟩ = false := Joins.unfrozen_of_block hblk 1
  have f2 : W7.frozen? ⟨w.heap.size, 2, none⟩ = false := Joins.unfrozen_of_block hblk 2
  have f3 : W7.frozen? ⟨w.heap.size, 3, none⟩ = false := Joins.unfrozen_of_block hblk 3
  have f4 : W7.frozen? ⟨w.heap.size, 4, none⟩ = false := Joins.unfrozen_of_block hblk 4
  clear hblk hW X B
  go_wp2_with fail
  rw [← hW9.out]
  refine bodyPost_ret (v := .tuple #[cv 0 0 0 0 0, .int .i64 10]) (by simp [results, Try.results9, go_sem, y0, y1, y2, y3, y4]) rfl ⟨rfl, hB9.out⟩
set_option maxHeartbeats 4000000 in
theorem b_unwrap_good (s : ByteArray) (w : World) (hs : s.size ≤ maxLen) (hp : pE s = 0) (hd : adr s 0 = 1652522221568) (ht : typ s = 32834) (hc0 : cE (dat s) = 0) (h6 : adr s 6 = 2199023321088 + rd (dat s) 7 9) : Calls TryQ.prog 9 #[.string s] w fun e w' => e = .returned (.tuple #[cv (rd (dat s) 1 3) (rd (dat s) 3 7) (rd (dat s) 7 9) (rd (dat s) 9 10) (rd (dat s) 10 11), .int .i64 0]) ∧ Below w.heap.size w w' := by
  have hds : (dat s).size ≤ maxLen := by unfold dat; rw [ByteArray.size_extract]; omega
  have hc := Lib.hid (fun W => fparse_good s W hs hp)
  obtain ⟨_, _, b0, b1, _⟩ := okC_yes (cE_zero (dat s) hc0).2.2.2
  have ha := Lib.hid (fun W => b_addr (rd (dat s) 7 9) W b0 (by omega))
  have k6 : (adr s 6 != 2199023321088 + rd (dat s) 7 9) = false := by rw [h6]; simp
  replace h6 := Lib.hid h6
  have hq := Lib.hid (fun W => by
    have := b_parse_any (dat s) W hds
    rw [cTup_good (dat s) hc0] at this
    exact this)
  clear hc0 b0 b1
  replace hs := Lib.hid hs
  replace hds := Lib.hid hds
  replace hp := Lib.hid hp
  have k1 : (adr s 0 != 1652522221568) = false := by rw [hd]; rfl
  have k2 : (typ s != 32834) = false := by rw [ht]; rfl
  replace hd := Lib.hid hd
  replace ht := Lib.hid ht
  obtain ⟨W0, hW0⟩ : ∃ W, W = w.alloc (.cells #[.int .i64 0, .int .i64 0, .int .i64 0, .int .i64 0, .int .i64 0] 25) := ⟨_, rfl⟩
  have B0 := Lib.hid (show Below w.heap.size w W0 by rw [hW0]; exact (Below.refl _ _).alloc (Nat.le_refl _) _)
  have X0 := Lib.hid (show W0.heap[w.heap.size]? = some (.cells #[.int .i64 0, .int .i64 0, .int .i64 0, .int .i64 0, .int .i64 0] 25 (0, 0)) by rw [hW0]; exact heap_alloc_new w _)
  have L0 := Lib.hid (show w.heap.size < W0.heap.size by rw [hW0]; simp)
  go_enter TryQ.func9, Try.ntmps9
  go_wp2_with fail
  rw [← hW0]
  clear hW0
  go_at_call 22
  (with_reducible refine (hc.out _).mono ?_)
  rintro e w1 ⟨rfl, hb1⟩
  have X1 := Lib.hid ((hb1.block w.heap.size L0.out).trans X0.out)
  have L1 := Lib.hid (Nat.lt_of_lt_of_le L0.out hb1.size)
  have B1 := Lib.hid (bt B0.out hb1)
  clear hb1 X0 L0 B0
  obtain ⟨W2, hW2⟩ : ∃ W, W = w1.alloc (.cells #[.int .i64 (adr s 0), .int .i64 (adr s 6), .int .i64 (typ s), .string (dat s)] 43) := ⟨_, rfl⟩
  have B2 := Lib.hid (show Below w.heap.size w W2 by rw [hW2]; exact B1.out.alloc (Nat.le_of_lt L1.out) _)
  have X2 := Lib.hid (show W2.heap[w.heap.size]? = some (.cells #[.int .i64 0, .int .i64 0, .int .i64 0, .int .i64 0, .int .i64 0] 25 (0, 0)) by rw [hW2]; exact (((Below.refl w1.heap.size w1).alloc (Nat.le_refl _) _).block _ L1.out).trans X1.out)
  have Y2 := Lib.hid (show W2.heap[w1.heap.size]? = some (.cells #[.int .i64 (adr s 0), .int .i64 (adr s 6), .int .i64 (typ s), .string (dat s)] 43 (0, 0)) by rw [hW2]; exact heap_alloc_new w1 _)
  have M2 := Lib.hid (show w1.heap.size < W2.heap.size by rw [hW2]; simp)
  have L2 := Lib.hid (show w.heap.size < W2.heap.size from Nat.lt_trans L1.out M2.out)
  clear B1 X1
  go_wp2_with fail
  rw [← hW2]
  clear hW2
  go_at_call 8
  (with_reducible refine (hq.out _).mono ?_)
  rintro e w3 ⟨rfl, hb3⟩
  have X3 := Lib.hid ((hb3.block w.heap.size L2.out).trans X2.out)
  have Y3 := Lib.hid ((hb3.block w1.heap.size M2.out).trans Y2.out)
  have M3 := Lib.hid (Nat.lt_of_lt_of_le M2.out hb3.size)
  have L3 := Lib.hid (Nat.lt_of_lt_of_le L2.out hb3.size)
  have B3 := Lib.hid (bt B2.out hb3)
  clear hb3 X2 Y2 L2 M2 B2 L1
  obtain ⟨W4, hW4⟩ : ∃ W, W = w3.alloc (.cells #[.int .i64 (rd (dat s) 1 3), .int .i64 (rd (dat s) 3 7), .int .i64 (rd (dat s) 7 9), .int .i64 (rd (dat s) 9 10), .int .i64 (rd (dat s) 10 11)] 25) := ⟨_, rfl⟩
  have B4 := Lib.hid (show Below w.heap.size w W4 by rw [hW4]; exact B3.out.alloc (Nat.le_of_lt L3.out) _)
  have X4 := Lib.hid (show W4.heap[w.heap.size]? = some (.cells #[.int .i64 0, .int .i64 0, .int .i64 0, .int .i64 0, .int .i64 0] 25 (0, 0)) by rw [hW4]; exact (((Below.refl w3.heap.size w3).alloc (Nat.le_refl _) _).block _ L3.out).trans X3.out)
  clear B3 X3
  have Y4 := Lib.hid (show W4.heap[w1.heap.size]? = some (.cells #[.int .i64 (adr s 0), .int .i64 (adr s 6), .int .i64 (typ s), .string (dat s)] 43 (0, 0)) by rw [hW4]; exact (((Below.refl w3.heap.size w3).alloc (Nat.le_refl _) _).block _ M3.out).trans Y3.out)
  have Z4 := Lib.hid (show W4.heap[w3.heap.size]? = some (.cells #[.int .i64 (rd (dat s) 1 3), .int .i64 (rd (dat s) 3 7), .int .i64 (rd (dat s) 7 9), .int .i64 (rd (dat s) 9 10), .int .i64 (rd (dat s) 10 11)] 25 (0, 0)) by rw [hW4]; exact heap_alloc_new w3 _)
  have N4 := Lib.hid (show w3.heap.size < W4.heap.size by rw [hW4]; simp)
  have L4 := Lib.hid (show w.heap.size < W4.heap.size from Nat.lt_trans L3.out N4.out)
  clear Y3 M3 L3
  go_wp2_with fail
  rw [← hW4]
  clear hW4
  have g1 : W4.cell? ⟨w1.heap.size, 1, none⟩ = some (.int .i64 (adr s 6)) := Joins.cell_of_block Y4.out 1
  have g2 : W4.cell? ⟨w3.heap.size, 2, none⟩ = some (.int .i64 (rd (dat s) 7 9)) := Joins.cell_of_block Z4.out 2
  have K1 := cell_regrown g1
  have K2 := cell_regrown g2
  have n0 : ∀ q os, Calls TryQ.prog 20 #[.int .i64 (rd (dat s) 7 9)] (grow (redrawn W4 q) os) fun e w'' => e = .returned (.int .i64 (2199023321088 + rd (dat s) 7 9)) ∧ ∃ p : Regrown, w'' = grow (redrawn W4 p.d) p.os := fun q os => (ha.out _).mono fun e w' ⟨h1, h2⟩ => ⟨h1, ⟨⟨q, os⟩, h2.symm⟩⟩
  refine wp_region_quiet_below (by kernel_rfl) (by kernel_rfl) ?_
  repeat (first | go_big_quiet_step (with_reducible exact n0 _ _) | quiet_step (with_reducible exact n0 _ _))
  refine wpQuiet_nil ?_
  intro _ hw'
  obtain ⟨⟨dq, osq⟩, hw''⟩ := hw'
  subst hw''
  have hb7 := below_regrown W4 dq osq
  have B := Lib.hid (bt B4.out hb7)
  have X := Lib.hid ((hb7.block w.heap.size L4.out).trans X4.out)
  have Z7 := (hb7.block w3.heap.size N4.out).trans Z4.out
  clear K1 K2 n0 g1 g2 hb7 B4 X4 Y4 Z4 N4 L4
  generalize grow (redrawn W4 dq) osq = W7 at *
  have c0 : W7.cell? ⟨w3.heap.size, 0, none⟩ = some (.int .i64 (rd (dat s) 1 3)) := Joins.cell_of_block Z7 0
  have c1 : W7.cell? ⟨w3.heap.size, 1, none⟩ = some (.int .i64 (rd (dat s) 3 7)) := Joins.cell_of_block Z7 1
  have c2 : W7.cell? ⟨w3.heap.size, 2, none⟩ = some (.int .i64 (rd (dat s) 7 9)) := Joins.cell_of_block Z7 2
  have c3 : W7.cell? ⟨w3.heap.size, 3, none⟩ = some (.int .i64 (rd (dat s) 9 10)) := Joins.cell_of_block Z7 3
  have c4 : W7.cell? ⟨w3.heap.size, 4, none⟩ = some (.int .i64 (rd (dat s) 10 11)) := Joins.cell_of_block Z7 4
  clear Z7
  have hblk := X.out
  obtain ⟨W9, hW9⟩ : ∃ W9, W9 = (((((W7.setCell ⟨w.heap.size, 0, none⟩ (.int .i64 (rd (dat s) 1 3))).setCell ⟨w.heap.size, 1, none⟩ (.int .i64 (rd (dat s) 3 7))).setCell ⟨w.heap.size, 2, none⟩ (.int .i64 (rd (dat s) 7 9))).setCell ⟨w.heap.size, 3, none⟩ (.int .i64 (rd (dat s) 9 10))).setCell ⟨w.heap.size, 4, none⟩ (.int .i64 (rd (dat s) 10 11))) := ⟨_, rfl⟩
  have hW := (((((Wrote.start hblk).set (i := 0) (.int .i64 (rd (dat s) 1 3))).set (i := 1) (.int .i64 (rd (dat s) 3 7))).set (i := 2) (.int .i64 (rd (dat s) 7 9))).set (i := 3) (.int .i64 (rd (dat s) 9 10))).set (i := 4) (.int .i64 (rd (dat s) 10 11))
  rw [← hW9] at hW
  replace hW9 := Lib.hid hW9
  have hB9 := Lib.hid (show Below w.heap.size w W9 from B.out.trans hW.below)
  have y0 : W9.cell? ⟨w.heap.size, 0, none⟩ = some (.int .i64 (rd (dat s) 1 3)) := Joins.cell_of_block hW.at_ 0
  have y1 : W9.cell? ⟨w.heap.size, 1, none⟩ = some (.int .i64 (rd (dat s) 3 7)) := Joins.cell_of_block hW.at_ 1
  have y2 : W9.cell? ⟨w.heap.size, 2, none⟩ = some (.int .i64 (rd (dat s) 7 9)) := Joins.cell_of_block hW.at_ 2
  have y3 : W9.cell? ⟨w.heap.size, 3, none⟩ = some (.int .i64 (rd (dat s) 9 10)) := Joins.cell_of_block hW.at_ 3
  have y4 : W9.cell? ⟨w.heap.size, 4, none⟩ = some (.int .i64 (rd (dat s) 10 11)) := Joins.cell_of_block hW.at_ 4
  have e0 : W7.cell? ⟨w.heap.size, 0, none⟩ = some (.int .i64 0) := Joins.cell_of_block hblk 0
  have e1 : W7.cell? ⟨w.heap.size, 1, none⟩ = some (.int .i64 0) := Joins.cell_of_block hblk 1
  have e2 : W7.cell? ⟨w.heap.size, 2, none⟩ = some (.int .i64 0) := Joins.cell_of_block hblk 2
  have e3 : W7.cell? ⟨w.heap.size, 3, none⟩ = some (.int .i64 0) := Joins.cell_of_block hblk 3
  have e4 : W7.cell? ⟨w.heap.size, 4, none⟩ = some (.int .i64 0) := Joins.cell_of_block hblk 4
  have f0 : W7.frozen? ⟨w.heap.size, 0, none⟩ = false := Joins.unfrozen_of_block hblk 0
  have f1 : W7.frozen? ⟨w.heap.size, 1, none⟩ = false := Joins.unfrozen_of_block hblk 1
  have f2 : W7.frozen? ⟨w.heap.size, 2, none⟩ = false := Joins.unfrozen_of_block hblk 2
  have f3 : W7.frozen? ⟨w.heap.size, 3, none⟩ = false := Joins.unfrozen_of_block hblk 3
  have f4 : W7.frozen? ⟨w.heap.size, 4, none⟩ = false := Joins.unfrozen_of_block hblk 4
  clear hblk hW X B
  go_wp2_with fail
  rw [← hW9.out]
  refine bodyPost_ret (v := .tuple #[cv (rd (dat s) 1 3) (rd (dat s) 3 7) (rd (dat s) 7 9) (rd (dat s) 9 10) (rd (dat s) 10 11), .int .i64 0]) (by simp [results, Try.results9, go_sem, y0, y1, y2, y3, y4]) rfl ⟨rfl, hB9.out⟩
theorem b_unwrap_any (s : ByteArray) (w : World) (hs : s.size ≤ maxLen) : Calls TryQ.prog 9 #[.string s] w fun e w' => e = .returned (uTup s) ∧ Below w.heap.size w w' := by
  by_cases hp : pE s = 0
  · by_cases hd : adr s 0 = 1652522221568
    · by_cases ht : typ s = 32834
      · by_cases hc : cE (dat s) = 0
        · by_cases h6 : adr s 6 = 2199023321088 + rd (dat s) 7 9
          · exact (b_unwrap_good s w hs hp hd ht hc h6).mono fun e w' ⟨h1, h2⟩ => ⟨by rw [h1, uTup_good s (by unfold uE; rw [if_neg (by rw [hp]; simp), if_neg (fun k => k ⟨hd, ht⟩), if_neg (by rw [hc]; simp), if_pos h6])], h2⟩
          · exact (b_unwrap_src s w hs hp hd ht hc h6).mono fun e w' ⟨h1, h2⟩ => ⟨by rw [h1, uTup_bad s 10 (by unfold uE; rw [if_neg (by rw [hp]; simp), if_neg (fun k => k ⟨hd, ht⟩), if_neg (by rw [hc]; simp), if_neg h6]) (by decide)], h2⟩
        · exact (b_unwrap_data s w hs hp hd ht _ rfl hc).mono fun e w' ⟨h1, h2⟩ => ⟨by rw [h1, uTup_bad s _ (by unfold uE; rw [if_neg (by rw [hp]; simp), if_neg (fun k => k ⟨hd, ht⟩), if_pos hc]) hc], h2⟩
      · exact (b_unwrap_typ s w hs hp hd ht).mono fun e w' ⟨h1, h2⟩ => ⟨by rw [h1, uTup_bad s 10 (by unfold uE; rw [if_neg (by rw [hp]; simp), if_pos (fun k => ht k.2)]) (by decide)], h2⟩
    · exact (b_unwrap_dst s w hs hp hd).mono fun e w' ⟨h1, h2⟩ => ⟨by rw [h1, uTup_bad s 10 (by unfold uE; rw [if_neg (by rw [hp]; simp), if_pos (fun k => hd k.1)]) (by decide)], h2⟩
  · exact (b_unwrap_bad s w hs _ rfl hp).mono fun e w' ⟨h1, h2⟩ => ⟨by rw [h1, uTup_bad s _ (by unfold uE; rw [if_pos hp]) hp], h2⟩
end Go.Proofs.Ytlgfogllkoabpaa.QMacP
