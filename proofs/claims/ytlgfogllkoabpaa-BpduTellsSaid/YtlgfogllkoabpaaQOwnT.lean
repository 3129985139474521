/-
  BpduTells, over TryQ.
-/
import Derived.Test.YtlgfogllkoabpaaQOwnO
import Derived.Test.YtlgfogllkoabpaaQFrameA
namespace Go.Proofs.Ytlgfogllkoabpaa.QMacP
open Go.RowKit Go.Sort Go.Proofs.Ytlgfogllkoabpaa.BoxP
set_option linter.unusedVariables false
set_option linter.unusedSimpArgs false
set_option maxRecDepth 100000
set_option maxHeartbeats 8000000 in
theorem tells_true (r c b p a : Int) (x y : ByteArray) (w : World) (hx : x.size ≤ maxLen) (hy : y.size ≤ maxLen) (hok : okC r c b p a = true) : Calls TryQ.prog 3 #[cv r c b p a, .string x, .string y] w fun e w' => e = .returned (.bool true) ∧ Below w.heap.size w w' := by
  have hx' : x.size ≤ 9223372036854775807 := by unfold maxLen at hx; omega
  have hy' : y.size ≤ 9223372036854775807 := by unfold maxLen at hy; omega
  obtain ⟨md, hmd⟩ : ∃ m : Int, min (x.size : Int) 20 = m := ⟨_, rfl⟩
  obtain ⟨d, hdd⟩ : ∃ e, x.extract 0 md.toNat = e := ⟨_, rfl⟩
  have hld : d.size ≤ 20 := by rw [← hdd, ByteArray.size_extract]; omega
  have had : 0 ≤ md := by omega
  have hbd : md ≤ (x.size : Int) := by omega
  replace hld := Lib.hid hld
  obtain ⟨mu, hmu⟩ : ∃ m : Int, min (y.size : Int) 130 = m := ⟨_, rfl⟩
  obtain ⟨u, hdu⟩ : ∃ e, y.extract 0 mu.toNat = e := ⟨_, rfl⟩
  have hlu : u.size ≤ 130 := by rw [← hdu, ByteArray.size_extract]; omega
  have hau : 0 ≤ mu := by omega
  have hbu : mu ≤ (y.size : Int) := by omega
  replace hlu := Lib.hid hlu
  obtain ⟨t1, t2, t3, t4, t5, g, _, _, cA, cX⟩ := parse_named d (by have := hld.out; unfold maxLen; omega)
  obtain ⟨u1, u2, u3, u4, u5, h, _, _, cB, cY⟩ := unwrap_named u (by have := hlu.out; unfold maxLen; omega)
  have cR := Lib.hid (fun W => b_right_is _ _ _ _ _ _ hok W)
  have cRR := Lib.hid (fun W => ref_cright_is _ _ _ _ _ _ hok W)
  have cP := Lib.hid (fun W => b_print_yes _ _ _ _ _ W hok)
  have cW := Lib.hid (fun W => b_wrap_yes _ _ _ _ _ W hok)
  have cRP := Lib.hid (fun W => ref_cprint _ _ _ _ _ W hok)
  have cRW := Lib.hid (fun W => ref_wrap _ _ _ _ _ W hok)
  generalize cBytes r c b p a = S at cP cRP
  generalize wBytes r c b p a = V at cW cRW
  replace cA := Lib.hid cA
  replace cB := Lib.hid cB
  replace cX := Lib.hid cX
  replace cY := Lib.hid cY
  clear hx hy hok
  go_enter TryQ.func3, Try.ntmps3
  go_wp2_with fail
  obtain ⟨w1, hw1⟩ : ∃ W, W = w.alloc (.cells #[.int .i64 r, .int .i64 c, .int .i64 b, .int .i64 p, .int .i64 a] 25) := ⟨_, rfl⟩
  have bw1 : Below w.heap.size w w1 := by rw [hw1]; exact (Below.refl _ _).alloc (Nat.le_refl _) _
  have Xw1 : Bx w1 w.heap.size 25 #[.int .i64 r, .int .i64 c, .int .i64 b, .int .i64 p, .int .i64 a] := by rw [hw1]; exact Bx.new _ _ _ rfl
  rw [← hw1]
  clear hw1
  have X_w1 := Lib.hid (Xw1)
  have z0_w1 : w.heap.size < w1.heap.size := Xw1.lt
  clear Xw1
  refine wp_region_quiet_below (by kernel_rfl) (by kernel_rfl) ?_
  repeat (first | go_big_quiet_step (fail) | quiet_step (fail))
  refine wpQuiet_nil ?_
  intro _ hw'
  obtain ⟨⟨dq, osq⟩, hw''⟩ := hw'
  subst hw''
  have hqw2 := below_regrown w1 dq osq
  generalize Go.Sort.grow (redrawn w1 dq) osq = w2 at *
  have X_w2 := Lib.hid (X_w1.out.below hqw2)
  have z0_w2 : w.heap.size < w2.heap.size := Nat.lt_of_lt_of_le z0_w1 hqw2.size
  have B_w2 := bt bw1 hqw2
  clear X_w1 z0_w1 bw1 hqw2
  clear hmd hmu hdd hdu had hbd hau hbu hx' hy'
  have o_X_0 := X_w2.out.c (i := 0) rfl
  have o_X_1 := X_w2.out.c (i := 1) rfl
  have o_X_2 := X_w2.out.c (i := 2) rfl
  have o_X_3 := X_w2.out.c (i := 3) rfl
  have o_X_4 := X_w2.out.c (i := 4) rfl
  go_wp2_with fail
  clear o_X_0 o_X_1 o_X_2 o_X_3 o_X_4
  go_at_call 6
  (with_reducible refine (cP.out _).mono ?_)
  rintro e w3 ⟨rfl, hb3⟩
  have X_w3 := Lib.hid (X_w2.out.below hb3)
  have z0_w3 : w.heap.size < w3.heap.size := Nat.lt_of_lt_of_le z0_w2 hb3.size
  have B_w3 := bt B_w2 hb3
  clear X_w2 z0_w2 B_w2 hb3
  have o_X_0 := X_w3.out.c (i := 0) rfl
  have o_X_1 := X_w3.out.c (i := 1) rfl
  have o_X_2 := X_w3.out.c (i := 2) rfl
  have o_X_3 := X_w3.out.c (i := 3) rfl
  have o_X_4 := X_w3.out.c (i := 4) rfl
  go_wp2_with fail
  clear o_X_0 o_X_1 o_X_2 o_X_3 o_X_4
  go_at_call 7
  (with_reducible refine (cW.out _).mono ?_)
  rintro e w4 ⟨rfl, hb4⟩
  have X_w4 := Lib.hid (X_w3.out.below hb4)
  have z0_w4 : w.heap.size < w4.heap.size := Nat.lt_of_lt_of_le z0_w3 hb4.size
  have B_w4 := bt B_w3 hb4
  clear X_w3 z0_w3 B_w3 hb4
  go_wp2_with fail
  go_at_call 8
  (with_reducible refine (cA.out _).mono ?_)
  rintro e w5 ⟨rfl, hb5⟩
  have X_w5 := Lib.hid (X_w4.out.below hb5)
  have z0_w5 : w.heap.size < w5.heap.size := Nat.lt_of_lt_of_le z0_w4 hb5.size
  have B_w5 := bt B_w4 hb5
  clear X_w4 z0_w4 B_w4 hb5
  go_wp2_with fail
  obtain ⟨w6, hw6⟩ : ∃ W, W = w5.alloc (.cells #[.int .i64 t1, .int .i64 t2, .int .i64 t3, .int .i64 t4, .int .i64 t5] 25) := ⟨_, rfl⟩
  have bw6 : Below w5.heap.size w5 w6 := by rw [hw6]; exact (Below.refl _ _).alloc (Nat.le_refl _) _
  have Xw6 : Bx w6 w5.heap.size 25 #[.int .i64 t1, .int .i64 t2, .int .i64 t3, .int .i64 t4, .int .i64 t5] := by rw [hw6]; exact Bx.new _ _ _ rfl
  rw [← hw6]
  clear hw6
  have X_w6 := Lib.hid (X_w5.out.below bw6)
  have A_w6 := Lib.hid (Xw6)
  have z0_w6 : w.heap.size < w6.heap.size := Nat.lt_of_lt_of_le z0_w5 bw6.size
  have B_w6 := bt B_w5 bw6
  clear X_w5 z0_w5 B_w5 bw6
  have z1_w6 : w5.heap.size < w6.heap.size := Xw6.lt
  clear Xw6
  go_at_call 9
  (with_reducible refine (cB.out _).mono ?_)
  rintro e w7 ⟨rfl, hb7⟩
  have X_w7 := Lib.hid (X_w6.out.below hb7)
  have A_w7 := Lib.hid (A_w6.out.below hb7)
  have z0_w7 : w.heap.size < w7.heap.size := Nat.lt_of_lt_of_le z0_w6 hb7.size
  have z1_w7 : w5.heap.size < w7.heap.size := Nat.lt_of_lt_of_le z1_w6 hb7.size
  have B_w7 := bt B_w6 hb7
  clear X_w6 A_w6 z0_w6 z1_w6 B_w6 hb7
  go_wp2_with fail
  obtain ⟨w8, hw8⟩ : ∃ W, W = w7.alloc (.cells #[.int .i64 u1, .int .i64 u2, .int .i64 u3, .int .i64 u4, .int .i64 u5] 25) := ⟨_, rfl⟩
  have bw8 : Below w7.heap.size w7 w8 := by rw [hw8]; exact (Below.refl _ _).alloc (Nat.le_refl _) _
  have Xw8 : Bx w8 w7.heap.size 25 #[.int .i64 u1, .int .i64 u2, .int .i64 u3, .int .i64 u4, .int .i64 u5] := by rw [hw8]; exact Bx.new _ _ _ rfl
  rw [← hw8]
  clear hw8
  have X_w8 := Lib.hid (X_w7.out.below bw8)
  have A_w8 := Lib.hid (A_w7.out.below bw8)
  have BB_w8 := Lib.hid (Xw8)
  have z0_w8 : w.heap.size < w8.heap.size := Nat.lt_of_lt_of_le z0_w7 bw8.size
  have z1_w8 : w5.heap.size < w8.heap.size := Nat.lt_of_lt_of_le z1_w7 bw8.size
  have B_w8 := bt B_w7 bw8
  clear X_w7 A_w7 z0_w7 z1_w7 B_w7 bw8
  have z2_w8 : w7.heap.size < w8.heap.size := Xw8.lt
  clear Xw8
  go_at_call 10
  (with_reducible refine (cX.out _).mono ?_)
  rintro e w9 ⟨rfl, hb9⟩
  have X_w9 := Lib.hid (X_w8.out.below hb9)
  have A_w9 := Lib.hid (A_w8.out.below hb9)
  have BB_w9 := Lib.hid (BB_w8.out.below hb9)
  have z0_w9 : w.heap.size < w9.heap.size := Nat.lt_of_lt_of_le z0_w8 hb9.size
  have z1_w9 : w5.heap.size < w9.heap.size := Nat.lt_of_lt_of_le z1_w8 hb9.size
  have z2_w9 : w7.heap.size < w9.heap.size := Nat.lt_of_lt_of_le z2_w8 hb9.size
  have B_w9 := bt B_w8 hb9
  clear X_w8 A_w8 BB_w8 z0_w8 z1_w8 z2_w8 B_w8 hb9
  go_wp2_with fail
  obtain ⟨w10, hw10⟩ : ∃ W, W = w9.alloc (.cells #[.int .i64 t1, .int .i64 t2, .int .i64 t3, .int .i64 t4, .int .i64 t5] 25) := ⟨_, rfl⟩
  have bw10 : Below w9.heap.size w9 w10 := by rw [hw10]; exact (Below.refl _ _).alloc (Nat.le_refl _) _
  have Xw10 : Bx w10 w9.heap.size 25 #[.int .i64 t1, .int .i64 t2, .int .i64 t3, .int .i64 t4, .int .i64 t5] := by rw [hw10]; exact Bx.new _ _ _ rfl
  rw [← hw10]
  clear hw10
  have X_w10 := Lib.hid (X_w9.out.below bw10)
  have A_w10 := Lib.hid (A_w9.out.below bw10)
  have BB_w10 := Lib.hid (BB_w9.out.below bw10)
  have XX_w10 := Lib.hid (Xw10)
  have z0_w10 : w.heap.size < w10.heap.size := Nat.lt_of_lt_of_le z0_w9 bw10.size
  have z1_w10 : w5.heap.size < w10.heap.size := Nat.lt_of_lt_of_le z1_w9 bw10.size
  have z2_w10 : w7.heap.size < w10.heap.size := Nat.lt_of_lt_of_le z2_w9 bw10.size
  have B_w10 := bt B_w9 bw10
  clear X_w9 A_w9 BB_w9 z0_w9 z1_w9 z2_w9 B_w9 bw10
  have z3_w10 : w9.heap.size < w10.heap.size := Xw10.lt
  clear Xw10
  go_at_call 11
  (with_reducible refine (cY.out _).mono ?_)
  rintro e w11 ⟨rfl, hb11⟩
  have X_w11 := Lib.hid (X_w10.out.below hb11)
  have A_w11 := Lib.hid (A_w10.out.below hb11)
  have BB_w11 := Lib.hid (BB_w10.out.below hb11)
  have XX_w11 := Lib.hid (XX_w10.out.below hb11)
  have z0_w11 : w.heap.size < w11.heap.size := Nat.lt_of_lt_of_le z0_w10 hb11.size
  have z1_w11 : w5.heap.size < w11.heap.size := Nat.lt_of_lt_of_le z1_w10 hb11.size
  have z2_w11 : w7.heap.size < w11.heap.size := Nat.lt_of_lt_of_le z2_w10 hb11.size
  have z3_w11 : w9.heap.size < w11.heap.size := Nat.lt_of_lt_of_le z3_w10 hb11.size
  have B_w11 := bt B_w10 hb11
  clear X_w10 A_w10 BB_w10 XX_w10 z0_w10 z1_w10 z2_w10 z3_w10 B_w10 hb11
  go_wp2_with fail
  obtain ⟨w12, hw12⟩ : ∃ W, W = w11.alloc (.cells #[.int .i64 u1, .int .i64 u2, .int .i64 u3, .int .i64 u4, .int .i64 u5] 25) := ⟨_, rfl⟩
  have bw12 : Below w11.heap.size w11 w12 := by rw [hw12]; exact (Below.refl _ _).alloc (Nat.le_refl _) _
  have Xw12 : Bx w12 w11.heap.size 25 #[.int .i64 u1, .int .i64 u2, .int .i64 u3, .int .i64 u4, .int .i64 u5] := by rw [hw12]; exact Bx.new _ _ _ rfl
  rw [← hw12]
  clear hw12
  have X_w12 := Lib.hid (X_w11.out.below bw12)
  have A_w12 := Lib.hid (A_w11.out.below bw12)
  have BB_w12 := Lib.hid (BB_w11.out.below bw12)
  have XX_w12 := Lib.hid (XX_w11.out.below bw12)
  have YY_w12 := Lib.hid (Xw12)
  have z0_w12 : w.heap.size < w12.heap.size := Nat.lt_of_lt_of_le z0_w11 bw12.size
  have z1_w12 : w5.heap.size < w12.heap.size := Nat.lt_of_lt_of_le z1_w11 bw12.size
  have z2_w12 : w7.heap.size < w12.heap.size := Nat.lt_of_lt_of_le z2_w11 bw12.size
  have z3_w12 : w9.heap.size < w12.heap.size := Nat.lt_of_lt_of_le z3_w11 bw12.size
  have B_w12 := bt B_w11 bw12
  clear X_w11 A_w11 BB_w11 XX_w11 z0_w11 z1_w11 z2_w11 z3_w11 B_w11 bw12
  have z4_w12 : w11.heap.size < w12.heap.size := Xw12.lt
  clear Xw12
  have K_X_0 := cell_regrown (X_w12.out.c (i := 0) rfl)
  have K_X_1 := cell_regrown (X_w12.out.c (i := 1) rfl)
  have K_X_2 := cell_regrown (X_w12.out.c (i := 2) rfl)
  have K_X_3 := cell_regrown (X_w12.out.c (i := 3) rfl)
  have K_X_4 := cell_regrown (X_w12.out.c (i := 4) rfl)
  have K_A_0 := cell_regrown (A_w12.out.c (i := 0) rfl)
  have K_A_1 := cell_regrown (A_w12.out.c (i := 1) rfl)
  have K_A_2 := cell_regrown (A_w12.out.c (i := 2) rfl)
  have K_A_3 := cell_regrown (A_w12.out.c (i := 3) rfl)
  have K_A_4 := cell_regrown (A_w12.out.c (i := 4) rfl)
  have K_BB_0 := cell_regrown (BB_w12.out.c (i := 0) rfl)
  have K_BB_1 := cell_regrown (BB_w12.out.c (i := 1) rfl)
  have K_BB_2 := cell_regrown (BB_w12.out.c (i := 2) rfl)
  have K_BB_3 := cell_regrown (BB_w12.out.c (i := 3) rfl)
  have K_BB_4 := cell_regrown (BB_w12.out.c (i := 4) rfl)
  have K_XX_0 := cell_regrown (XX_w12.out.c (i := 0) rfl)
  have K_XX_1 := cell_regrown (XX_w12.out.c (i := 1) rfl)
  have K_XX_2 := cell_regrown (XX_w12.out.c (i := 2) rfl)
  have K_XX_3 := cell_regrown (XX_w12.out.c (i := 3) rfl)
  have K_XX_4 := cell_regrown (XX_w12.out.c (i := 4) rfl)
  have K_YY_0 := cell_regrown (YY_w12.out.c (i := 0) rfl)
  have K_YY_1 := cell_regrown (YY_w12.out.c (i := 1) rfl)
  have K_YY_2 := cell_regrown (YY_w12.out.c (i := 2) rfl)
  have K_YY_3 := cell_regrown (YY_w12.out.c (i := 3) rfl)
  have K_YY_4 := cell_regrown (YY_w12.out.c (i := 4) rfl)
  have cC0 := fun (d : Nat) (os : Array Obj) => Calls.regrown_of (cR.out (Go.Sort.grow (redrawn w12 d) os))
  have cC1 := fun (d : Nat) (os : Array Obj) => Calls.regrown_of (cRR.out (Go.Sort.grow (redrawn w12 d) os))
  have cC2 := fun (d : Nat) (os : Array Obj) => Calls.regrown_of (alive_any (Go.Sort.grow (redrawn w12 d) os))
  refine wp_region_quiet_below (by kernel_rfl) (by kernel_rfl) ?_
  repeat (first | go_big_quiet_step (first | with_reducible exact cC0 _ _ | with_reducible exact cC1 _ _ | with_reducible exact cC2 _ _) | quiet_step (first | with_reducible exact cC0 _ _ | with_reducible exact cC1 _ _ | with_reducible exact cC2 _ _))
  refine wpQuiet_nil ?_
  intro _ hw'
  obtain ⟨⟨dq, osq⟩, hw''⟩ := hw'
  subst hw''
  have hqw13 := below_regrown w12 dq osq
  clear K_X_0 K_X_1 K_X_2 K_X_3 K_X_4 K_A_0 K_A_1 K_A_2 K_A_3 K_A_4 K_BB_0 K_BB_1 K_BB_2 K_BB_3 K_BB_4 K_XX_0 K_XX_1 K_XX_2 K_XX_3 K_XX_4 K_YY_0 K_YY_1 K_YY_2 K_YY_3 K_YY_4 cC0 cC1 cC2
  generalize Go.Sort.grow (redrawn w12 dq) osq = w13 at *
  have X_w13 := Lib.hid (X_w12.out.below hqw13)
  have A_w13 := Lib.hid (A_w12.out.below hqw13)
  have BB_w13 := Lib.hid (BB_w12.out.below hqw13)
  have XX_w13 := Lib.hid (XX_w12.out.below hqw13)
  have YY_w13 := Lib.hid (YY_w12.out.below hqw13)
  have z0_w13 : w.heap.size < w13.heap.size := Nat.lt_of_lt_of_le z0_w12 hqw13.size
  have z1_w13 : w5.heap.size < w13.heap.size := Nat.lt_of_lt_of_le z1_w12 hqw13.size
  have z2_w13 : w7.heap.size < w13.heap.size := Nat.lt_of_lt_of_le z2_w12 hqw13.size
  have z3_w13 : w9.heap.size < w13.heap.size := Nat.lt_of_lt_of_le z3_w12 hqw13.size
  have z4_w13 : w11.heap.size < w13.heap.size := Nat.lt_of_lt_of_le z4_w12 hqw13.size
  have B_w13 := bt B_w12 hqw13
  clear X_w12 A_w12 BB_w12 XX_w12 YY_w12 z0_w12 z1_w12 z2_w12 z3_w12 z4_w12 B_w12 hqw13
  have o_X_0 := X_w13.out.c (i := 0) rfl
  have o_X_1 := X_w13.out.c (i := 1) rfl
  have o_X_2 := X_w13.out.c (i := 2) rfl
  have o_X_3 := X_w13.out.c (i := 3) rfl
  have o_X_4 := X_w13.out.c (i := 4) rfl
  go_wp2_with fail
  clear o_X_0 o_X_1 o_X_2 o_X_3 o_X_4
  go_at_call 13
  (with_reducible refine (cRR.out _).mono ?_)
  rintro e w14 ⟨rfl, hb14⟩
  have X_w14 := Lib.hid (X_w13.out.below hb14)
  have A_w14 := Lib.hid (A_w13.out.below hb14)
  have BB_w14 := Lib.hid (BB_w13.out.below hb14)
  have XX_w14 := Lib.hid (XX_w13.out.below hb14)
  have YY_w14 := Lib.hid (YY_w13.out.below hb14)
  have z0_w14 : w.heap.size < w14.heap.size := Nat.lt_of_lt_of_le z0_w13 hb14.size
  have z1_w14 : w5.heap.size < w14.heap.size := Nat.lt_of_lt_of_le z1_w13 hb14.size
  have z2_w14 : w7.heap.size < w14.heap.size := Nat.lt_of_lt_of_le z2_w13 hb14.size
  have z3_w14 : w9.heap.size < w14.heap.size := Nat.lt_of_lt_of_le z3_w13 hb14.size
  have z4_w14 : w11.heap.size < w14.heap.size := Nat.lt_of_lt_of_le z4_w13 hb14.size
  have B_w14 := bt B_w13 hb14
  clear X_w13 A_w13 BB_w13 XX_w13 YY_w13 z0_w13 z1_w13 z2_w13 z3_w13 z4_w13 B_w13 hb14
  have o_X_0 := X_w14.out.c (i := 0) rfl
  have o_X_1 := X_w14.out.c (i := 1) rfl
  have o_X_2 := X_w14.out.c (i := 2) rfl
  have o_X_3 := X_w14.out.c (i := 3) rfl
  have o_X_4 := X_w14.out.c (i := 4) rfl
  go_wp2_with fail
  clear o_X_0 o_X_1 o_X_2 o_X_3 o_X_4
  go_at_call 15
  (with_reducible refine (cRP.out _).mono ?_)
  rintro e w15 ⟨rfl, hb15⟩
  have X_w15 := Lib.hid (X_w14.out.below hb15)
  have A_w15 := Lib.hid (A_w14.out.below hb15)
  have BB_w15 := Lib.hid (BB_w14.out.below hb15)
  have XX_w15 := Lib.hid (XX_w14.out.below hb15)
  have YY_w15 := Lib.hid (YY_w14.out.below hb15)
  have z0_w15 : w.heap.size < w15.heap.size := Nat.lt_of_lt_of_le z0_w14 hb15.size
  have z1_w15 : w5.heap.size < w15.heap.size := Nat.lt_of_lt_of_le z1_w14 hb15.size
  have z2_w15 : w7.heap.size < w15.heap.size := Nat.lt_of_lt_of_le z2_w14 hb15.size
  have z3_w15 : w9.heap.size < w15.heap.size := Nat.lt_of_lt_of_le z3_w14 hb15.size
  have z4_w15 : w11.heap.size < w15.heap.size := Nat.lt_of_lt_of_le z4_w14 hb15.size
  have B_w15 := bt B_w14 hb15
  clear X_w14 A_w14 BB_w14 XX_w14 YY_w14 z0_w14 z1_w14 z2_w14 z3_w14 z4_w14 B_w14 hb15
  have o_X_0 := X_w15.out.c (i := 0) rfl
  have o_X_1 := X_w15.out.c (i := 1) rfl
  have o_X_2 := X_w15.out.c (i := 2) rfl
  have o_X_3 := X_w15.out.c (i := 3) rfl
  have o_X_4 := X_w15.out.c (i := 4) rfl
  go_wp2_with fail
  clear o_X_0 o_X_1 o_X_2 o_X_3 o_X_4
  go_at_call 16
  (with_reducible refine (cRW.out _).mono ?_)
  rintro e w16 ⟨rfl, hb16⟩
  have X_w16 := Lib.hid (X_w15.out.below hb16)
  have A_w16 := Lib.hid (A_w15.out.below hb16)
  have BB_w16 := Lib.hid (BB_w15.out.below hb16)
  have XX_w16 := Lib.hid (XX_w15.out.below hb16)
  have YY_w16 := Lib.hid (YY_w15.out.below hb16)
  have z0_w16 : w.heap.size < w16.heap.size := Nat.lt_of_lt_of_le z0_w15 hb16.size
  have z1_w16 : w5.heap.size < w16.heap.size := Nat.lt_of_lt_of_le z1_w15 hb16.size
  have z2_w16 : w7.heap.size < w16.heap.size := Nat.lt_of_lt_of_le z2_w15 hb16.size
  have z3_w16 : w9.heap.size < w16.heap.size := Nat.lt_of_lt_of_le z3_w15 hb16.size
  have z4_w16 : w11.heap.size < w16.heap.size := Nat.lt_of_lt_of_le z4_w15 hb16.size
  have B_w16 := bt B_w15 hb16
  clear X_w15 A_w15 BB_w15 XX_w15 YY_w15 z0_w15 z1_w15 z2_w15 z3_w15 z4_w15 B_w15 hb16
  go_wp2_with fail
  go_ret
  exact ⟨rfl, B_w16⟩
set_option maxHeartbeats 8000000 in
theorem tells_false (r c b p a : Int) (x y : ByteArray) (w : World) (hx : x.size ≤ maxLen) (hy : y.size ≤ maxLen) (hok : okC r c b p a = false) : Calls TryQ.prog 3 #[cv r c b p a, .string x, .string y] w fun e w' => e = .returned (.bool true) ∧ Below w.heap.size w w' := by
  have hx' : x.size ≤ 9223372036854775807 := by unfold maxLen at hx; omega
  have hy' : y.size ≤ 9223372036854775807 := by unfold maxLen at hy; omega
  obtain ⟨md, hmd⟩ : ∃ m : Int, min (x.size : Int) 20 = m := ⟨_, rfl⟩
  obtain ⟨d, hdd⟩ : ∃ e, x.extract 0 md.toNat = e := ⟨_, rfl⟩
  have hld : d.size ≤ 20 := by rw [← hdd, ByteArray.size_extract]; omega
  have had : 0 ≤ md := by omega
  have hbd : md ≤ (x.size : Int) := by omega
  replace hld := Lib.hid hld
  obtain ⟨mu, hmu⟩ : ∃ m : Int, min (y.size : Int) 130 = m := ⟨_, rfl⟩
  obtain ⟨u, hdu⟩ : ∃ e, y.extract 0 mu.toNat = e := ⟨_, rfl⟩
  have hlu : u.size ≤ 130 := by rw [← hdu, ByteArray.size_extract]; omega
  have hau : 0 ≤ mu := by omega
  have hbu : mu ≤ (y.size : Int) := by omega
  replace hlu := Lib.hid hlu
  obtain ⟨t1, t2, t3, t4, t5, g, _, _, cA, cX⟩ := parse_named d (by have := hld.out; unfold maxLen; omega)
  obtain ⟨u1, u2, u3, u4, u5, h, _, _, cB, cY⟩ := unwrap_named u (by have := hlu.out; unfold maxLen; omega)
  have cR := Lib.hid (fun W => b_right_is _ _ _ _ _ _ hok W)
  have cRR := Lib.hid (fun W => ref_cright_is _ _ _ _ _ _ hok W)
  have cP := Lib.hid (fun W => b_print_no _ _ _ _ _ W hok)
  have cW := Lib.hid (fun W => b_wrap_no _ _ _ _ _ W hok)
  replace cA := Lib.hid cA
  replace cB := Lib.hid cB
  replace cX := Lib.hid cX
  replace cY := Lib.hid cY
  clear hx hy hok
  go_enter TryQ.func3, Try.ntmps3
  go_wp2_with fail
  obtain ⟨w1, hw1⟩ : ∃ W, W = w.alloc (.cells #[.int .i64 r, .int .i64 c, .int .i64 b, .int .i64 p, .int .i64 a] 25) := ⟨_, rfl⟩
  have bw1 : Below w.heap.size w w1 := by rw [hw1]; exact (Below.refl _ _).alloc (Nat.le_refl _) _
  have Xw1 : Bx w1 w.heap.size 25 #[.int .i64 r, .int .i64 c, .int .i64 b, .int .i64 p, .int .i64 a] := by rw [hw1]; exact Bx.new _ _ _ rfl
  rw [← hw1]
  clear hw1
  have X_w1 := Lib.hid (Xw1)
  have z0_w1 : w.heap.size < w1.heap.size := Xw1.lt
  clear Xw1
  refine wp_region_quiet_below (by kernel_rfl) (by kernel_rfl) ?_
  repeat (first | go_big_quiet_step (fail) | quiet_step (fail))
  refine wpQuiet_nil ?_
  intro _ hw'
  obtain ⟨⟨dq, osq⟩, hw''⟩ := hw'
  subst hw''
  have hqw2 := below_regrown w1 dq osq
  generalize Go.Sort.grow (redrawn w1 dq) osq = w2 at *
  have X_w2 := Lib.hid (X_w1.out.below hqw2)
  have z0_w2 : w.heap.size < w2.heap.size := Nat.lt_of_lt_of_le z0_w1 hqw2.size
  have B_w2 := bt bw1 hqw2
  clear X_w1 z0_w1 bw1 hqw2
  clear hmd hmu hdd hdu had hbd hau hbu hx' hy'
  have o_X_0 := X_w2.out.c (i := 0) rfl
  have o_X_1 := X_w2.out.c (i := 1) rfl
  have o_X_2 := X_w2.out.c (i := 2) rfl
  have o_X_3 := X_w2.out.c (i := 3) rfl
  have o_X_4 := X_w2.out.c (i := 4) rfl
  go_wp2_with fail
  clear o_X_0 o_X_1 o_X_2 o_X_3 o_X_4
  go_at_call 6
  (with_reducible refine (cP.out _).mono ?_)
  rintro e w3 ⟨rfl, hb3⟩
  have X_w3 := Lib.hid (X_w2.out.below hb3)
  have z0_w3 : w.heap.size < w3.heap.size := Nat.lt_of_lt_of_le z0_w2 hb3.size
  have B_w3 := bt B_w2 hb3
  clear X_w2 z0_w2 B_w2 hb3
  have o_X_0 := X_w3.out.c (i := 0) rfl
  have o_X_1 := X_w3.out.c (i := 1) rfl
  have o_X_2 := X_w3.out.c (i := 2) rfl
  have o_X_3 := X_w3.out.c (i := 3) rfl
  have o_X_4 := X_w3.out.c (i := 4) rfl
  go_wp2_with fail
  clear o_X_0 o_X_1 o_X_2 o_X_3 o_X_4
  go_at_call 7
  (with_reducible refine (cW.out _).mono ?_)
  rintro e w4 ⟨rfl, hb4⟩
  have X_w4 := Lib.hid (X_w3.out.below hb4)
  have z0_w4 : w.heap.size < w4.heap.size := Nat.lt_of_lt_of_le z0_w3 hb4.size
  have B_w4 := bt B_w3 hb4
  clear X_w3 z0_w3 B_w3 hb4
  go_wp2_with fail
  go_at_call 8
  (with_reducible refine (cA.out _).mono ?_)
  rintro e w5 ⟨rfl, hb5⟩
  have X_w5 := Lib.hid (X_w4.out.below hb5)
  have z0_w5 : w.heap.size < w5.heap.size := Nat.lt_of_lt_of_le z0_w4 hb5.size
  have B_w5 := bt B_w4 hb5
  clear X_w4 z0_w4 B_w4 hb5
  go_wp2_with fail
  obtain ⟨w6, hw6⟩ : ∃ W, W = w5.alloc (.cells #[.int .i64 t1, .int .i64 t2, .int .i64 t3, .int .i64 t4, .int .i64 t5] 25) := ⟨_, rfl⟩
  have bw6 : Below w5.heap.size w5 w6 := by rw [hw6]; exact (Below.refl _ _).alloc (Nat.le_refl _) _
  have Xw6 : Bx w6 w5.heap.size 25 #[.int .i64 t1, .int .i64 t2, .int .i64 t3, .int .i64 t4, .int .i64 t5] := by rw [hw6]; exact Bx.new _ _ _ rfl
  rw [← hw6]
  clear hw6
  have X_w6 := Lib.hid (X_w5.out.below bw6)
  have A_w6 := Lib.hid (Xw6)
  have z0_w6 : w.heap.size < w6.heap.size := Nat.lt_of_lt_of_le z0_w5 bw6.size
  have B_w6 := bt B_w5 bw6
  clear X_w5 z0_w5 B_w5 bw6
  have z1_w6 : w5.heap.size < w6.heap.size := Xw6.lt
  clear Xw6
  go_at_call 9
  (with_reducible refine (cB.out _).mono ?_)
  rintro e w7 ⟨rfl, hb7⟩
  have X_w7 := Lib.hid (X_w6.out.below hb7)
  have A_w7 := Lib.hid (A_w6.out.below hb7)
  have z0_w7 : w.heap.size < w7.heap.size := Nat.lt_of_lt_of_le z0_w6 hb7.size
  have z1_w7 : w5.heap.size < w7.heap.size := Nat.lt_of_lt_of_le z1_w6 hb7.size
  have B_w7 := bt B_w6 hb7
  clear X_w6 A_w6 z0_w6 z1_w6 B_w6 hb7
  go_wp2_with fail
  obtain ⟨w8, hw8⟩ : ∃ W, W = w7.alloc (.cells #[.int .i64 u1, .int .i64 u2, .int .i64 u3, .int .i64 u4, .int .i64 u5] 25) := ⟨_, rfl⟩
  have bw8 : Below w7.heap.size w7 w8 := by rw [hw8]; exact (Below.refl _ _).alloc (Nat.le_refl _) _
  have Xw8 : Bx w8 w7.heap.size 25 #[.int .i64 u1, .int .i64 u2, .int .i64 u3, .int .i64 u4, .int .i64 u5] := by rw [hw8]; exact Bx.new _ _ _ rfl
  rw [← hw8]
  clear hw8
  have X_w8 := Lib.hid (X_w7.out.below bw8)
  have A_w8 := Lib.hid (A_w7.out.below bw8)
  have BB_w8 := Lib.hid (Xw8)
  have z0_w8 : w.heap.size < w8.heap.size := Nat.lt_of_lt_of_le z0_w7 bw8.size
  have z1_w8 : w5.heap.size < w8.heap.size := Nat.lt_of_lt_of_le z1_w7 bw8.size
  have B_w8 := bt B_w7 bw8
  clear X_w7 A_w7 z0_w7 z1_w7 B_w7 bw8
  have z2_w8 : w7.heap.size < w8.heap.size := Xw8.lt
  clear Xw8
  go_at_call 10
  (with_reducible refine (cX.out _).mono ?_)
  rintro e w9 ⟨rfl, hb9⟩
  have X_w9 := Lib.hid (X_w8.out.below hb9)
  have A_w9 := Lib.hid (A_w8.out.below hb9)
  have BB_w9 := Lib.hid (BB_w8.out.below hb9)
  have z0_w9 : w.heap.size < w9.heap.size := Nat.lt_of_lt_of_le z0_w8 hb9.size
  have z1_w9 : w5.heap.size < w9.heap.size := Nat.lt_of_lt_of_le z1_w8 hb9.size
  have z2_w9 : w7.heap.size < w9.heap.size := Nat.lt_of_lt_of_le z2_w8 hb9.size
  have B_w9 := bt B_w8 hb9
  clear X_w8 A_w8 BB_w8 z0_w8 z1_w8 z2_w8 B_w8 hb9
  go_wp2_with fail
  obtain ⟨w10, hw10⟩ : ∃ W, W = w9.alloc (.cells #[.int .i64 t1, .int .i64 t2, .int .i64 t3, .int .i64 t4, .int .i64 t5] 25) := ⟨_, rfl⟩
  have bw10 : Below w9.heap.size w9 w10 := by rw [hw10]; exact (Below.refl _ _).alloc (Nat.le_refl _) _
  have Xw10 : Bx w10 w9.heap.size 25 #[.int .i64 t1, .int .i64 t2, .int .i64 t3, .int .i64 t4, .int .i64 t5] := by rw [hw10]; exact Bx.new _ _ _ rfl
  rw [← hw10]
  clear hw10
  have X_w10 := Lib.hid (X_w9.out.below bw10)
  have A_w10 := Lib.hid (A_w9.out.below bw10)
  have BB_w10 := Lib.hid (BB_w9.out.below bw10)
  have XX_w10 := Lib.hid (Xw10)
  have z0_w10 : w.heap.size < w10.heap.size := Nat.lt_of_lt_of_le z0_w9 bw10.size
  have z1_w10 : w5.heap.size < w10.heap.size := Nat.lt_of_lt_of_le z1_w9 bw10.size
  have z2_w10 : w7.heap.size < w10.heap.size := Nat.lt_of_lt_of_le z2_w9 bw10.size
  have B_w10 := bt B_w9 bw10
  clear X_w9 A_w9 BB_w9 z0_w9 z1_w9 z2_w9 B_w9 bw10
  have z3_w10 : w9.heap.size < w10.heap.size := Xw10.lt
  clear Xw10
  go_at_call 11
  (with_reducible refine (cY.out _).mono ?_)
  rintro e w11 ⟨rfl, hb11⟩
  have X_w11 := Lib.hid (X_w10.out.below hb11)
  have A_w11 := Lib.hid (A_w10.out.below hb11)
  have BB_w11 := Lib.hid (BB_w10.out.below hb11)
  have XX_w11 := Lib.hid (XX_w10.out.below hb11)
  have z0_w11 : w.heap.size < w11.heap.size := Nat.lt_of_lt_of_le z0_w10 hb11.size
  have z1_w11 : w5.heap.size < w11.heap.size := Nat.lt_of_lt_of_le z1_w10 hb11.size
  have z2_w11 : w7.heap.size < w11.heap.size := Nat.lt_of_lt_of_le z2_w10 hb11.size
  have z3_w11 : w9.heap.size < w11.heap.size := Nat.lt_of_lt_of_le z3_w10 hb11.size
  have B_w11 := bt B_w10 hb11
  clear X_w10 A_w10 BB_w10 XX_w10 z0_w10 z1_w10 z2_w10 z3_w10 B_w10 hb11
  go_wp2_with fail
  obtain ⟨w12, hw12⟩ : ∃ W, W = w11.alloc (.cells #[.int .i64 u1, .int .i64 u2, .int .i64 u3, .int .i64 u4, .int .i64 u5] 25) := ⟨_, rfl⟩
  have bw12 : Below w11.heap.size w11 w12 := by rw [hw12]; exact (Below.refl _ _).alloc (Nat.le_refl _) _
  have Xw12 : Bx w12 w11.heap.size 25 #[.int .i64 u1, .int .i64 u2, .int .i64 u3, .int .i64 u4, .int .i64 u5] := by rw [hw12]; exact Bx.new _ _ _ rfl
  rw [← hw12]
  clear hw12
  have X_w12 := Lib.hid (X_w11.out.below bw12)
  have A_w12 := Lib.hid (A_w11.out.below bw12)
  have BB_w12 := Lib.hid (BB_w11.out.below bw12)
  have XX_w12 := Lib.hid (XX_w11.out.below bw12)
  have YY_w12 := Lib.hid (Xw12)
  have z0_w12 : w.heap.size < w12.heap.size := Nat.lt_of_lt_of_le z0_w11 bw12.size
  have z1_w12 : w5.heap.size < w12.heap.size := Nat.lt_of_lt_of_le z1_w11 bw12.size
  have z2_w12 : w7.heap.size < w12.heap.size := Nat.lt_of_lt_of_le z2_w11 bw12.size
  have z3_w12 : w9.heap.size < w12.heap.size := Nat.lt_of_lt_of_le z3_w11 bw12.size
  have B_w12 := bt B_w11 bw12
  clear X_w11 A_w11 BB_w11 XX_w11 z0_w11 z1_w11 z2_w11 z3_w11 B_w11 bw12
  have z4_w12 : w11.heap.size < w12.heap.size := Xw12.lt
  clear Xw12
  have K_X_0 := cell_regrown (X_w12.out.c (i := 0) rfl)
  have K_X_1 := cell_regrown (X_w12.out.c (i := 1) rfl)
  have K_X_2 := cell_regrown (X_w12.out.c (i := 2) rfl)
  have K_X_3 := cell_regrown (X_w12.out.c (i := 3) rfl)
  have K_X_4 := cell_regrown (X_w12.out.c (i := 4) rfl)
  have K_A_0 := cell_regrown (A_w12.out.c (i := 0) rfl)
  have K_A_1 := cell_regrown (A_w12.out.c (i := 1) rfl)
  have K_A_2 := cell_regrown (A_w12.out.c (i := 2) rfl)
  have K_A_3 := cell_regrown (A_w12.out.c (i := 3) rfl)
  have K_A_4 := cell_regrown (A_w12.out.c (i := 4) rfl)
  have K_BB_0 := cell_regrown (BB_w12.out.c (i := 0) rfl)
  have K_BB_1 := cell_regrown (BB_w12.out.c (i := 1) rfl)
  have K_BB_2 := cell_regrown (BB_w12.out.c (i := 2) rfl)
  have K_BB_3 := cell_regrown (BB_w12.out.c (i := 3) rfl)
  have K_BB_4 := cell_regrown (BB_w12.out.c (i := 4) rfl)
  have K_XX_0 := cell_regrown (XX_w12.out.c (i := 0) rfl)
  have K_XX_1 := cell_regrown (XX_w12.out.c (i := 1) rfl)
  have K_XX_2 := cell_regrown (XX_w12.out.c (i := 2) rfl)
  have K_XX_3 := cell_regrown (XX_w12.out.c (i := 3) rfl)
  have K_XX_4 := cell_regrown (XX_w12.out.c (i := 4) rfl)
  have K_YY_0 := cell_regrown (YY_w12.out.c (i := 0) rfl)
  have K_YY_1 := cell_regrown (YY_w12.out.c (i := 1) rfl)
  have K_YY_2 := cell_regrown (YY_w12.out.c (i := 2) rfl)
  have K_YY_3 := cell_regrown (YY_w12.out.c (i := 3) rfl)
  have K_YY_4 := cell_regrown (YY_w12.out.c (i := 4) rfl)
  have cC0 := fun (d : Nat) (os : Array Obj) => Calls.regrown_of (cR.out (Go.Sort.grow (redrawn w12 d) os))
  have cC1 := fun (d : Nat) (os : Array Obj) => Calls.regrown_of (cRR.out (Go.Sort.grow (redrawn w12 d) os))
  have cC2 := fun (d : Nat) (os : Array Obj) => Calls.regrown_of (alive_any (Go.Sort.grow (redrawn w12 d) os))
  refine wp_region_quiet_below (by kernel_rfl) (by kernel_rfl) ?_
  repeat (first | go_big_quiet_step (first | with_reducible exact cC0 _ _ | with_reducible exact cC1 _ _ | with_reducible exact cC2 _ _) | quiet_step (first | with_reducible exact cC0 _ _ | with_reducible exact cC1 _ _ | with_reducible exact cC2 _ _))
  refine wpQuiet_nil ?_
  intro _ hw'
  obtain ⟨⟨dq, osq⟩, hw''⟩ := hw'
  subst hw''
  have hqw13 := below_regrown w12 dq osq
  clear K_X_0 K_X_1 K_X_2 K_X_3 K_X_4 K_A_0 K_A_1 K_A_2 K_A_3 K_A_4 K_BB_0 K_BB_1 K_BB_2 K_BB_3 K_BB_4 K_XX_0 K_XX_1 K_XX_2 K_XX_3 K_XX_4 K_YY_0 K_YY_1 K_YY_2 K_YY_3 K_YY_4 cC0 cC1 cC2
  generalize Go.Sort.grow (redrawn w12 dq) osq = w13 at *
  have X_w13 := Lib.hid (X_w12.out.below hqw13)
  have A_w13 := Lib.hid (A_w12.out.below hqw13)
  have BB_w13 := Lib.hid (BB_w12.out.below hqw13)
  have XX_w13 := Lib.hid (XX_w12.out.below hqw13)
  have YY_w13 := Lib.hid (YY_w12.out.below hqw13)
  have z0_w13 : w.heap.size < w13.heap.size := Nat.lt_of_lt_of_le z0_w12 hqw13.size
  have z1_w13 : w5.heap.size < w13.heap.size := Nat.lt_of_lt_of_le z1_w12 hqw13.size
  have z2_w13 : w7.heap.size < w13.heap.size := Nat.lt_of_lt_of_le z2_w12 hqw13.size
  have z3_w13 : w9.heap.size < w13.heap.size := Nat.lt_of_lt_of_le z3_w12 hqw13.size
  have z4_w13 : w11.heap.size < w13.heap.size := Nat.lt_of_lt_of_le z4_w12 hqw13.size
  have B_w13 := bt B_w12 hqw13
  clear X_w12 A_w12 BB_w12 XX_w12 YY_w12 z0_w12 z1_w12 z2_w12 z3_w12 z4_w12 B_w12 hqw13
  have o_X_0 := X_w13.out.c (i := 0) rfl
  have o_X_1 := X_w13.out.c (i := 1) rfl
  have o_X_2 := X_w13.out.c (i := 2) rfl
  have o_X_3 := X_w13.out.c (i := 3) rfl
  have o_X_4 := X_w13.out.c (i := 4) rfl
  go_wp2_with fail
  clear o_X_0 o_X_1 o_X_2 o_X_3 o_X_4
  go_at_call 13
  (with_reducible refine (cRR.out _).mono ?_)
  rintro e w14 ⟨rfl, hb14⟩
  have X_w14 := Lib.hid (X_w13.out.below hb14)
  have A_w14 := Lib.hid (A_w13.out.below hb14)
  have BB_w14 := Lib.hid (BB_w13.out.below hb14)
  have XX_w14 := Lib.hid (XX_w13.out.below hb14)
  have YY_w14 := Lib.hid (YY_w13.out.below hb14)
  have z0_w14 : w.heap.size < w14.heap.size := Nat.lt_of_lt_of_le z0_w13 hb14.size
  have z1_w14 : w5.heap.size < w14.heap.size := Nat.lt_of_lt_of_le z1_w13 hb14.size
  have z2_w14 : w7.heap.size < w14.heap.size := Nat.lt_of_lt_of_le z2_w13 hb14.size
  have z3_w14 : w9.heap.size < w14.heap.size := Nat.lt_of_lt_of_le z3_w13 hb14.size
  have z4_w14 : w11.heap.size < w14.heap.size := Nat.lt_of_lt_of_le z4_w13 hb14.size
  have B_w14 := bt B_w13 hb14
  clear X_w13 A_w13 BB_w13 XX_w13 YY_w13 z0_w13 z1_w13 z2_w13 z3_w13 z4_w13 B_w13 hb14
  go_wp2_with fail
  go_ret
  exact ⟨rfl, B_w14⟩
theorem tells_go (v : Value) (x y : ByteArray) (h : InCfg v) (hx : x.size ≤ maxLen) (hy : y.size ≤ maxLen) (w : World) : Calls TryQ.prog 3 #[v, .string x, .string y] w fun e w' => e = .returned (.bool true) ∧ Below w.heap.size w w' := by
  obtain ⟨r, c, b, p, a, rfl⟩ := h
  cases ok : okC r c b p a
  · exact tells_false r c b p a x y w hx hy ok
  · exact tells_true r c b p a x y w hx hy ok
end Go.Proofs.Ytlgfogllkoabpaa.QMacP
