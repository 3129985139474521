/-
  BpduBack, over TryQ.
-/
import Derived.Test.YtlgfogllkoabpaaQOwnO
import Derived.Test.YtlgfogllkoabpaaQFrameA
namespace Go.Proofs.Ytlgfogllkoabpaa.QMacP
open Go.RowKit Go.Sort Go.Proofs.Ytlgfogllkoabpaa.BoxP
set_option linter.unusedVariables false
set_option linter.unusedSimpArgs false
set_option maxRecDepth 100000
theorem parse_back (r c b p a : Int) (h : okC r c b p a = true) (w : World) : Calls TryQ.prog 8 #[.string (cBytes r c b p a)] w fun e w' => e = .returned (.tuple #[cv r c b p a, .int .i64 0]) ∧ Below w.heap.size w w' := by
  have := b_parse_any (cBytes r c b p a) w (by rw [cBytes_size]; decide)
  rw [cparse_print r c b p a h] at this
  exact this
theorem unwrap_back (r c b p a : Int) (h : okC r c b p a = true) (w : World) : Calls TryQ.prog 9 #[.string (wBytes r c b p a)] w fun e w' => e = .returned (.tuple #[cv r c b p a, .int .i64 0]) ∧ Below w.heap.size w w' := by
  have := b_unwrap_any (wBytes r c b p a) w (by unfold wBytes; rw [pBytes_size, cBytes_size]; decide)
  rw [(unwrap_wrap r c b p a h).2] at this
  exact this
set_option maxHeartbeats 8000000 in
theorem back_true_good (r c b p a : Int) (y : ByteArray) (w : World) (hy : y.size ≤ maxLen) (hok : okC r c b p a = true) (u : ByteArray) (mu : Int) (hmu : min (y.size : Int) 130 = mu) (hdu : y.extract 0 mu.toNat = u) (hlu0 : u.size ≤ 130) (hu : uE u = 0) : Calls TryQ.prog 4 #[cv r c b p a, .string y] w fun e w' => e = .returned (.bool true) ∧ Below w.heap.size w w' := by
  have hy' : y.size ≤ 9223372036854775807 := by unfold maxLen at hy; omega
  have hau : 0 ≤ mu := by omega
  have hbu : mu ≤ (y.size : Int) := by omega
  have hum : u.size ≤ maxLen := by unfold maxLen; omega
  have cR := Lib.hid (fun W => b_right_is _ _ _ _ _ _ hok W)
  have cP := Lib.hid (fun W => b_print_yes _ _ _ _ _ W hok)
  have cW := Lib.hid (fun W => b_wrap_yes _ _ _ _ _ W hok)
  have cA := Lib.hid (fun W => parse_back _ _ _ _ _ hok W)
  have cB := Lib.hid (fun W => unwrap_back _ _ _ _ _ hok W)
  generalize cBytes r c b p a = S at cP cA
  generalize wBytes r c b p a = V at cW cB
  obtain ⟨hk, hw⟩ := wrap_unwrap u hu
  have cU := Lib.hid (fun W => (by
    have := b_unwrap_any u W hum
    rw [uTup_good u hu] at this
    exact this : Calls TryQ.prog 9 #[.string u] W fun e w' => e = .returned (.tuple #[cv (rd (dat u) 1 3) (rd (dat u) 3 7) (rd (dat u) 7 9) (rd (dat u) 9 10) (rd (dat u) 10 11), .int .i64 0]) ∧ Below W.heap.size W w'))
  have cV := Lib.hid (fun W => (by
    have := b_wrap_yes _ _ _ _ _ W hk
    rw [hw] at this
    exact this : Calls TryQ.prog 7 #[cv (rd (dat u) 1 3) (rd (dat u) 3 7) (rd (dat u) 7 9) (rd (dat u) 9 10) (rd (dat u) 10 11)] W fun e w' => e = .returned (.tuple #[.string u, .int .i64 0]) ∧ Below W.heap.size W w'))
  have cRU := Lib.hid (fun W => b_right_is _ _ _ _ _ _ hk W)
  clear hk hw
  generalize rd (dat u) 1 3 = d1 at cU cV cRU
  generalize rd (dat u) 3 7 = d2 at cU cV cRU
  generalize rd (dat u) 7 9 = d3 at cU cV cRU
  generalize rd (dat u) 9 10 = d4 at cU cV cRU
  generalize rd (dat u) 10 11 = d5 at cU cV cRU
  replace hu := Lib.hid hu
  clear hy hok hum hlu0
  go_enter TryQ.func4, Try.ntmps4
  go_wp2_with fail
  obtain ⟨w1, hw1⟩ : ∃ W, W = w.alloc (.cells #[.int .i64 r, .int .i64 c, .int .i64 b, .int .i64 p, .int .i64 a] 25) := ⟨_, rfl⟩
  have bw1 : Below w.heap.size w w1 := by rw [hw1]; exact (Below.refl _ _).alloc (Nat.le_refl _) _
  have Xw1 : Bx w1 w.heap.size 25 #[.int .i64 r, .int .i64 c, .int .i64 b, .int .i64 p, .int .i64 a] := by rw [hw1]; exact Bx.new _ _ _ rfl
  rw [← hw1]
  clear hw1
  have X_w1 := Lib.hid (Xw1)
  have z0_w1 : w.heap.size < w1.heap.size := Xw1.lt
  clear Xw1
  clear hmu hdu hau hbu hy'
  go_at_call 6
  (with_reducible refine (cP.out _).mono ?_)
  rintro e w2 ⟨rfl, hb2⟩
  have X_w2 := Lib.hid (X_w1.out.below hb2)
  have z0_w2 : w.heap.size < w2.heap.size := Nat.lt_of_lt_of_le z0_w1 hb2.size
  have B_w2 := bt bw1 hb2
  clear X_w1 z0_w1 bw1 hb2
  have o_X_0 := X_w2.out.c (i := 0) rfl
  have o_X_1 := X_w2.out.c (i := 1) rfl
  have o_X_2 := X_w2.out.c (i := 2) rfl
  have o_X_3 := X_w2.out.c (i := 3) rfl
  have o_X_4 := X_w2.out.c (i := 4) rfl
  go_wp2_with fail
  clear o_X_0 o_X_1 o_X_2 o_X_3 o_X_4
  go_at_call 7
  (with_reducible refine (cW.out _).mono ?_)
  rintro e w3 ⟨rfl, hb3⟩
  have X_w3 := Lib.hid (X_w2.out.below hb3)
  have z0_w3 : w.heap.size < w3.heap.size := Nat.lt_of_lt_of_le z0_w2 hb3.size
  have B_w3 := bt B_w2 hb3
  clear X_w2 z0_w2 B_w2 hb3
  have o_X_0 := X_w3.out.c (i := 0) rfl
  have o_X_1 := X_w3.out.c (i := 1) rfl
  have o_X_2 := X_w3.out.c (i := 2) rfl
  have o_X_3 := X_w3.out.c (i := 3) rfl
  have o_X_4 := X_w3.out.c (i := 4) rfl
  go_wp2_with fail
  clear o_X_0 o_X_1 o_X_2 o_X_3 o_X_4
  go_at_call 12
  (with_reducible refine (cR.out _).mono ?_)
  rintro e w4 ⟨rfl, hb4⟩
  have X_w4 := Lib.hid (X_w3.out.below hb4)
  have z0_w4 : w.heap.size < w4.heap.size := Nat.lt_of_lt_of_le z0_w3 hb4.size
  have B_w4 := bt B_w3 hb4
  clear X_w3 z0_w3 B_w3 hb4
  go_wp2_with fail
  go_at_call 14
  (with_reducible refine (alive_any _).mono ?_)
  rintro e w5 ⟨rfl, hb5⟩
  have X_w5 := Lib.hid (X_w4.out.below hb5)
  have z0_w5 : w.heap.size < w5.heap.size := Nat.lt_of_lt_of_le z0_w4 hb5.size
  have B_w5 := bt B_w4 hb5
  clear X_w4 z0_w4 B_w4 hb5
  go_wp2_with fail
  go_at_call 8
  (with_reducible refine (cA.out _).mono ?_)
  rintro e w6 ⟨rfl, hb6⟩
  have X_w6 := Lib.hid (X_w5.out.below hb6)
  have z0_w6 : w.heap.size < w6.heap.size := Nat.lt_of_lt_of_le z0_w5 hb6.size
  have B_w6 := bt B_w5 hb6
  clear X_w5 z0_w5 B_w5 hb6
  go_wp2_with fail
  obtain ⟨w7, hw7⟩ : ∃ W, W = w6.alloc (.cells #[.int .i64 r, .int .i64 c, .int .i64 b, .int .i64 p, .int .i64 a] 25) := ⟨_, rfl⟩
  have bw7 : Below w6.heap.size w6 w7 := by rw [hw7]; exact (Below.refl _ _).alloc (Nat.le_refl _) _
  have Xw7 : Bx w7 w6.heap.size 25 #[.int .i64 r, .int .i64 c, .int .i64 b, .int .i64 p, .int .i64 a] := by rw [hw7]; exact Bx.new _ _ _ rfl
  rw [← hw7]
  clear hw7
  have X_w7 := Lib.hid (X_w6.out.below bw7)
  have A_w7 := Lib.hid (Xw7)
  have z0_w7 : w.heap.size < w7.heap.size := Nat.lt_of_lt_of_le z0_w6 bw7.size
  have B_w7 := bt B_w6 bw7
  clear X_w6 z0_w6 B_w6 bw7
  have z1_w7 : w6.heap.size < w7.heap.size := Xw7.lt
  clear Xw7
  go_at_call 9
  (with_reducible refine (cB.out _).mono ?_)
  rintro e w8 ⟨rfl, hb8⟩
  have X_w8 := Lib.hid (X_w7.out.below hb8)
  have A_w8 := Lib.hid (A_w7.out.below hb8)
  have z0_w8 : w.heap.size < w8.heap.size := Nat.lt_of_lt_of_le z0_w7 hb8.size
  have z1_w8 : w6.heap.size < w8.heap.size := Nat.lt_of_lt_of_le z1_w7 hb8.size
  have B_w8 := bt B_w7 hb8
  clear X_w7 A_w7 z0_w7 z1_w7 B_w7 hb8
  have o_X_0 := X_w8.out.c (i := 0) rfl
  have o_X_1 := X_w8.out.c (i := 1) rfl
  have o_X_2 := X_w8.out.c (i := 2) rfl
  have o_X_3 := X_w8.out.c (i := 3) rfl
  have o_X_4 := X_w8.out.c (i := 4) rfl
  have o_A_0 := A_w8.out.c (i := 0) rfl
  have o_A_1 := A_w8.out.c (i := 1) rfl
  have o_A_2 := A_w8.out.c (i := 2) rfl
  have o_A_3 := A_w8.out.c (i := 3) rfl
  have o_A_4 := A_w8.out.c (i := 4) rfl
  go_wp2_with fail
  clear o_X_0 o_X_1 o_X_2 o_X_3 o_X_4 o_A_0 o_A_1 o_A_2 o_A_3 o_A_4
  obtain ⟨w9, hw9⟩ : ∃ W, W = w8.alloc (.cells #[.int .i64 r, .int .i64 c, .int .i64 b, .int .i64 p, .int .i64 a] 25) := ⟨_, rfl⟩
  have bw9 : Below w8.heap.size w8 w9 := by rw [hw9]; exact (Below.refl _ _).alloc (Nat.le_refl _) _
  have Xw9 : Bx w9 w8.heap.size 25 #[.int .i64 r, .int .i64 c, .int .i64 b, .int .i64 p, .int .i64 a] := by rw [hw9]; exact Bx.new _ _ _ rfl
  rw [← hw9]
  clear hw9
  have X_w9 := Lib.hid (X_w8.out.below bw9)
  have A_w9 := Lib.hid (A_w8.out.below bw9)
  have BB_w9 := Lib.hid (Xw9)
  have z0_w9 : w.heap.size < w9.heap.size := Nat.lt_of_lt_of_le z0_w8 bw9.size
  have z1_w9 : w6.heap.size < w9.heap.size := Nat.lt_of_lt_of_le z1_w8 bw9.size
  have B_w9 := bt B_w8 bw9
  clear X_w8 A_w8 z0_w8 z1_w8 B_w8 bw9
  have z2_w9 : w8.heap.size < w9.heap.size := Xw9.lt
  clear Xw9
  go_at_call 9
  (with_reducible refine (cU.out _).mono ?_)
  rintro e w10 ⟨rfl, hb10⟩
  have X_w10 := Lib.hid (X_w9.out.below hb10)
  have A_w10 := Lib.hid (A_w9.out.below hb10)
  have BB_w10 := Lib.hid (BB_w9.out.below hb10)
  have z0_w10 : w.heap.size < w10.heap.size := Nat.lt_of_lt_of_le z0_w9 hb10.size
  have z1_w10 : w6.heap.size < w10.heap.size := Nat.lt_of_lt_of_le z1_w9 hb10.size
  have z2_w10 : w8.heap.size < w10.heap.size := Nat.lt_of_lt_of_le z2_w9 hb10.size
  have B_w10 := bt B_w9 hb10
  clear X_w9 A_w9 BB_w9 z0_w9 z1_w9 z2_w9 B_w9 hb10
  go_wp2_with fail
  obtain ⟨w11, hw11⟩ : ∃ W, W = w10.alloc (.cells #[.int .i64 d1, .int .i64 d2, .int .i64 d3, .int .i64 d4, .int .i64 d5] 25) := ⟨_, rfl⟩
  have bw11 : Below w10.heap.size w10 w11 := by rw [hw11]; exact (Below.refl _ _).alloc (Nat.le_refl _) _
  have Xw11 : Bx w11 w10.heap.size 25 #[.int .i64 d1, .int .i64 d2, .int .i64 d3, .int .i64 d4, .int .i64 d5] := by rw [hw11]; exact Bx.new _ _ _ rfl
  rw [← hw11]
  clear hw11
  have X_w11 := Lib.hid (X_w10.out.below bw11)
  have A_w11 := Lib.hid (A_w10.out.below bw11)
  have BB_w11 := Lib.hid (BB_w10.out.below bw11)
  have D_w11 := Lib.hid (Xw11)
  have z0_w11 : w.heap.size < w11.heap.size := Nat.lt_of_lt_of_le z0_w10 bw11.size
  have z1_w11 : w6.heap.size < w11.heap.size := Nat.lt_of_lt_of_le z1_w10 bw11.size
  have z2_w11 : w8.heap.size < w11.heap.size := Nat.lt_of_lt_of_le z2_w10 bw11.size
  have B_w11 := bt B_w10 bw11
  clear X_w10 A_w10 BB_w10 z0_w10 z1_w10 z2_w10 B_w10 bw11
  have z3_w11 : w10.heap.size < w11.heap.size := Xw11.lt
  clear Xw11
  go_at_call 7
  (with_reducible refine (cV.out _).mono ?_)
  rintro e w12 ⟨rfl, hb12⟩
  have X_w12 := Lib.hid (X_w11.out.below hb12)
  have A_w12 := Lib.hid (A_w11.out.below hb12)
  have BB_w12 := Lib.hid (BB_w11.out.below hb12)
  have D_w12 := Lib.hid (D_w11.out.below hb12)
  have z0_w12 : w.heap.size < w12.heap.size := Nat.lt_of_lt_of_le z0_w11 hb12.size
  have z1_w12 : w6.heap.size < w12.heap.size := Nat.lt_of_lt_of_le z1_w11 hb12.size
  have z2_w12 : w8.heap.size < w12.heap.size := Nat.lt_of_lt_of_le z2_w11 hb12.size
  have z3_w12 : w10.heap.size < w12.heap.size := Nat.lt_of_lt_of_le z3_w11 hb12.size
  have B_w12 := bt B_w11 hb12
  clear X_w11 A_w11 BB_w11 D_w11 z0_w11 z1_w11 z2_w11 z3_w11 B_w11 hb12
  have o_D_0 := D_w12.out.c (i := 0) rfl
  have o_D_1 := D_w12.out.c (i := 1) rfl
  have o_D_2 := D_w12.out.c (i := 2) rfl
  have o_D_3 := D_w12.out.c (i := 3) rfl
  have o_D_4 := D_w12.out.c (i := 4) rfl
  go_wp2_with fail
  clear o_D_0 o_D_1 o_D_2 o_D_3 o_D_4
  go_at_call 12
  (with_reducible refine (cRU.out _).mono ?_)
  rintro e w13 ⟨rfl, hb13⟩
  have X_w13 := Lib.hid (X_w12.out.below hb13)
  have A_w13 := Lib.hid (A_w12.out.below hb13)
  have BB_w13 := Lib.hid (BB_w12.out.below hb13)
  have D_w13 := Lib.hid (D_w12.out.below hb13)
  have z0_w13 : w.heap.size < w13.heap.size := Nat.lt_of_lt_of_le z0_w12 hb13.size
  have z1_w13 : w6.heap.size < w13.heap.size := Nat.lt_of_lt_of_le z1_w12 hb13.size
  have z2_w13 : w8.heap.size < w13.heap.size := Nat.lt_of_lt_of_le z2_w12 hb13.size
  have z3_w13 : w10.heap.size < w13.heap.size := Nat.lt_of_lt_of_le z3_w12 hb13.size
  have B_w13 := bt B_w12 hb13
  clear X_w12 A_w12 BB_w12 D_w12 z0_w12 z1_w12 z2_w12 z3_w12 B_w12 hb13
  go_wp2_with fail
  go_ret
  exact ⟨rfl, B_w13⟩
set_option maxHeartbeats 8000000 in
theorem back_true_bad (r c b p a : Int) (y : ByteArray) (w : World) (hy : y.size ≤ maxLen) (hok : okC r c b p a = true) (u : ByteArray) (mu : Int) (hmu : min (y.size : Int) 130 = mu) (hdu : y.extract 0 mu.toNat = u) (hlu0 : u.size ≤ 130) (hu : uE u ≠ 0) : Calls TryQ.prog 4 #[cv r c b p a, .string y] w fun e w' => e = .returned (.bool true) ∧ Below w.heap.size w w' := by
  have hy' : y.size ≤ 9223372036854775807 := by unfold maxLen at hy; omega
  have hau : 0 ≤ mu := by omega
  have hbu : mu ≤ (y.size : Int) := by omega
  have hum : u.size ≤ maxLen := by unfold maxLen; omega
  have cR := Lib.hid (fun W => b_right_is _ _ _ _ _ _ hok W)
  have cP := Lib.hid (fun W => b_print_yes _ _ _ _ _ W hok)
  have cW := Lib.hid (fun W => b_wrap_yes _ _ _ _ _ W hok)
  have cA := Lib.hid (fun W => parse_back _ _ _ _ _ hok W)
  have cB := Lib.hid (fun W => unwrap_back _ _ _ _ _ hok W)
  generalize cBytes r c b p a = S at cP cA
  generalize wBytes r c b p a = V at cW cB
  obtain ⟨g, hg⟩ : ∃ g, uE u = g := ⟨_, rfl⟩
  rw [hg] at hu
  have cU := Lib.hid (fun W => (by
    have := b_unwrap_any u W hum
    rw [uTup_bad u g hg hu] at this
    exact this : Calls TryQ.prog 9 #[.string u] W fun e w' => e = .returned (.tuple #[cv 0 0 0 0 0, .int .i64 g]) ∧ Below W.heap.size W w'))
  have gne : (g != 0) = true := by simpa using hu
  clear hg
  replace hu := Lib.hid hu
  clear hy hok hum hlu0
  go_enter TryQ.func4, Try.ntmps4
  go_wp2_with fail
  obtain ⟨w1, hw1⟩ : ∃ W, W = w.alloc (.cells #[.int .i64 r, .int .i64 c, .int .i64 b, .int .i64 p, .int .i64 a] 25) := ⟨_, rfl⟩
  have bw1 : Below w.heap.size w w1 := by rw [hw1]; exact (Below.refl _ _).alloc (Nat.le_refl _) _
  have Xw1 : Bx w1 w.heap.size 25 #[.int .i64 r, .int .i64 c, .int .i64 b, .int .i64 p, .int .i64 a] := by rw [hw1]; exact Bx.new _ _ _ rfl
  rw [← hw1]
  clear hw1
  have X_w1 := Lib.hid (Xw1)
  have z0_w1 : w.heap.size < w1.heap.size := Xw1.lt
  clear Xw1
  clear hmu hdu hau hbu hy'
  go_at_call 6
  (with_reducible refine (cP.out _).mono ?_)
  rintro e w2 ⟨rfl, hb2⟩
  have X_w2 := Lib.hid (X_w1.out.below hb2)
  have z0_w2 : w.heap.size < w2.heap.size := Nat.lt_of_lt_of_le z0_w1 hb2.size
  have B_w2 := bt bw1 hb2
  clear X_w1 z0_w1 bw1 hb2
  have o_X_0 := X_w2.out.c (i := 0) rfl
  have o_X_1 := X_w2.out.c (i := 1) rfl
  have o_X_2 := X_w2.out.c (i := 2) rfl
  have o_X_3 := X_w2.out.c (i := 3) rfl
  have o_X_4 := X_w2.out.c (i := 4) rfl
  go_wp2_with fail
  clear o_X_0 o_X_1 o_X_2 o_X_3 o_X_4
  go_at_call 7
  (with_reducible refine (cW.out _).mono ?_)
  rintro e w3 ⟨rfl, hb3⟩
  have X_w3 := Lib.hid (X_w2.out.below hb3)
  have z0_w3 : w.heap.size < w3.heap.size := Nat.lt_of_lt_of_le z0_w2 hb3.size
  have B_w3 := bt B_w2 hb3
  clear X_w2 z0_w2 B_w2 hb3
  have o_X_0 := X_w3.out.c (i := 0) rfl
  have o_X_1 := X_w3.out.c (i := 1) rfl
  have o_X_2 := X_w3.out.c (i := 2) rfl
  have o_X_3 := X_w3.out.c (i := 3) rfl
  have o_X_4 := X_w3.out.c (i := 4) rfl
  go_wp2_with fail
  clear o_X_0 o_X_1 o_X_2 o_X_3 o_X_4
  go_at_call 12
  (with_reducible refine (cR.out _).mono ?_)
  rintro e w4 ⟨rfl, hb4⟩
  have X_w4 := Lib.hid (X_w3.out.below hb4)
  have z0_w4 : w.heap.size < w4.heap.size := Nat.lt_of_lt_of_le z0_w3 hb4.size
  have B_w4 := bt B_w3 hb4
  clear X_w3 z0_w3 B_w3 hb4
  go_wp2_with fail
  go_at_call 14
  (with_reducible refine (alive_any _).mono ?_)
  rintro e w5 ⟨rfl, hb5⟩
  have X_w5 := Lib.hid (X_w4.out.below hb5)
  have z0_w5 : w.heap.size < w5.heap.size := Nat.lt_of_lt_of_le z0_w4 hb5.size
  have B_w5 := bt B_w4 hb5
  clear X_w4 z0_w4 B_w4 hb5
  go_wp2_with fail
  go_at_call 8
  (with_reducible refine (cA.out _).mono ?_)
  rintro e w6 ⟨rfl, hb6⟩
  have X_w6 := Lib.hid (X_w5.out.below hb6)
  have z0_w6 : w.heap.size < w6.heap.size := Nat.lt_of_lt_of_le z0_w5 hb6.size
  have B_w6 := bt B_w5 hb6
  clear X_w5 z0_w5 B_w5 hb6
  go_wp2_with fail
  obtain ⟨w7, hw7⟩ : ∃ W, W = w6.alloc (.cells #[.int .i64 r, .int .i64 c, .int .i64 b, .int .i64 p, .int .i64 a] 25) := ⟨_, rfl⟩
  have bw7 : Below w6.heap.size w6 w7 := by rw [hw7]; exact (Below.refl _ _).alloc (Nat.le_refl _) _
  have Xw7 : Bx w7 w6.heap.size 25 #[.int .i64 r, .int .i64 c, .int .i64 b, .int .i64 p, .int .i64 a] := by rw [hw7]; exact Bx.new _ _ _ rfl
  rw [← hw7]
  clear hw7
  have X_w7 := Lib.hid (X_w6.out.below bw7)
  have A_w7 := Lib.hid (Xw7)
  have z0_w7 : w.heap.size < w7.heap.size := Nat.lt_of_lt_of_le z0_w6 bw7.size
  have B_w7 := bt B_w6 bw7
  clear X_w6 z0_w6 B_w6 bw7
  have z1_w7 : w6.heap.size < w7.heap.size := Xw7.lt
  clear Xw7
  go_at_call 9
  (with_reducible refine (cB.out _).mono ?_)
  rintro e w8 ⟨rfl, hb8⟩
  have X_w8 := Lib.hid (X_w7.out.below hb8)
  have A_w8 := Lib.hid (A_w7.out.below hb8)
  have z0_w8 : w.heap.size < w8.heap.size := Nat.lt_of_lt_of_le z0_w7 hb8.size
  have z1_w8 : w6.heap.size < w8.heap.size := Nat.lt_of_lt_of_le z1_w7 hb8.size
  have B_w8 := bt B_w7 hb8
  clear X_w7 A_w7 z0_w7 z1_w7 B_w7 hb8
  have o_X_0 := X_w8.out.c (i := 0) rfl
  have o_X_1 := X_w8.out.c (i := 1) rfl
  have o_X_2 := X_w8.out.c (i := 2) rfl
  have o_X_3 := X_w8.out.c (i := 3) rfl
  have o_X_4 := X_w8.out.c (i := 4) rfl
  have o_A_0 := A_w8.out.c (i := 0) rfl
  have o_A_1 := A_w8.out.c (i := 1) rfl
  have o_A_2 := A_w8.out.c (i := 2) rfl
  have o_A_3 := A_w8.out.c (i := 3) rfl
  have o_A_4 := A_w8.out.c (i := 4) rfl
  go_wp2_with fail
  clear o_X_0 o_X_1 o_X_2 o_X_3 o_X_4 o_A_0 o_A_1 o_A_2 o_A_3 o_A_4
  obtain ⟨w9, hw9⟩ : ∃ W, W = w8.alloc (.cells #[.int .i64 r, .int .i64 c, .int .i64 b, .int .i64 p, .int .i64 a] 25) := ⟨_, rfl⟩
  have bw9 : Below w8.heap.size w8 w9 := by rw [hw9]; exact (Below.refl _ _).alloc (Nat.le_refl _) _
  have Xw9 : Bx w9 w8.heap.size 25 #[.int .i64 r, .int .i64 c, .int .i64 b, .int .i64 p, .int .i64 a] := by rw [hw9]; exact Bx.new _ _ _ rfl
  rw [← hw9]
  clear hw9
  have X_w9 := Lib.hid (X_w8.out.below bw9)
  have A_w9 := Lib.hid (A_w8.out.below bw9)
  have BB_w9 := Lib.hid (Xw9)
  have z0_w9 : w.heap.size < w9.heap.size := Nat.lt_of_lt_of_le z0_w8 bw9.size
  have z1_w9 : w6.heap.size < w9.heap.size := Nat.lt_of_lt_of_le z1_w8 bw9.size
  have B_w9 := bt B_w8 bw9
  clear X_w8 A_w8 z0_w8 z1_w8 B_w8 bw9
  have z2_w9 : w8.heap.size < w9.heap.size := Xw9.lt
  clear Xw9
  go_at_call 9
  (with_reducible refine (cU.out _).mono ?_)
  rintro e w10 ⟨rfl, hb10⟩
  have X_w10 := Lib.hid (X_w9.out.below hb10)
  have A_w10 := Lib.hid (A_w9.out.below hb10)
  have BB_w10 := Lib.hid (BB_w9.out.below hb10)
  have z0_w10 : w.heap.size < w10.heap.size := Nat.lt_of_lt_of_le z0_w9 hb10.size
  have z1_w10 : w6.heap.size < w10.heap.size := Nat.lt_of_lt_of_le z1_w9 hb10.size
  have z2_w10 : w8.heap.size < w10.heap.size := Nat.lt_of_lt_of_le z2_w9 hb10.size
  have B_w10 := bt B_w9 hb10
  clear X_w9 A_w9 BB_w9 z0_w9 z1_w9 z2_w9 B_w9 hb10
  go_wp2_with fail
  go_ret
  exact ⟨rfl, bt B_w10 ((Below.refl _ _).alloc (Nat.le_refl _) _)⟩
set_option maxHeartbeats 8000000 in
theorem back_false_good (r c b p a : Int) (y : ByteArray) (w : World) (hy : y.size ≤ maxLen) (hok : okC r c b p a = false) (u : ByteArray) (mu : Int) (hmu : min (y.size : Int) 130 = mu) (hdu : y.extract 0 mu.toNat = u) (hlu0 : u.size ≤ 130) (hu : uE u = 0) : Calls TryQ.prog 4 #[cv r c b p a, .string y] w fun e w' => e = .returned (.bool true) ∧ Below w.heap.size w w' := by
  have hy' : y.size ≤ 9223372036854775807 := by unfold maxLen at hy; omega
  have hau : 0 ≤ mu := by omega
  have hbu : mu ≤ (y.size : Int) := by omega
  have hum : u.size ≤ maxLen := by unfold maxLen; omega
  have cR := Lib.hid (fun W => b_right_is _ _ _ _ _ _ hok W)
  have cP := Lib.hid (fun W => b_print_no _ _ _ _ _ W hok)
  have cW := Lib.hid (fun W => b_wrap_no _ _ _ _ _ W hok)
  obtain ⟨hk, hw⟩ := wrap_unwrap u hu
  have cU := Lib.hid (fun W => (by
    have := b_unwrap_any u W hum
    rw [uTup_good u hu] at this
    exact this : Calls TryQ.prog 9 #[.string u] W fun e w' => e = .returned (.tuple #[cv (rd (dat u) 1 3) (rd (dat u) 3 7) (rd (dat u) 7 9) (rd (dat u) 9 10) (rd (dat u) 10 11), .int .i64 0]) ∧ Below W.heap.size W w'))
  have cV := Lib.hid (fun W => (by
    have := b_wrap_yes _ _ _ _ _ W hk
    rw [hw] at this
    exact this : Calls TryQ.prog 7 #[cv (rd (dat u) 1 3) (rd (dat u) 3 7) (rd (dat u) 7 9) (rd (dat u) 9 10) (rd (dat u) 10 11)] W fun e w' => e = .returned (.tuple #[.string u, .int .i64 0]) ∧ Below W.heap.size W w'))
  have cRU := Lib.hid (fun W => b_right_is _ _ _ _ _ _ hk W)
  clear hk hw
  generalize rd (dat u) 1 3 = d1 at cU cV cRU
  generalize rd (dat u) 3 7 = d2 at cU cV cRU
  generalize rd (dat u) 7 9 = d3 at cU cV cRU
  generalize rd (dat u) 9 10 = d4 at cU cV cRU
  generalize rd (dat u) 10 11 = d5 at cU cV cRU
  replace hu := Lib.hid hu
  clear hy hok hum hlu0
  go_enter TryQ.func4, Try.ntmps4
  go_wp2_with fail
  obtain ⟨w1, hw1⟩ : ∃ W, W = w.alloc (.cells #[.int .i64 r, .int .i64 c, .int .i64 b, .int .i64 p, .int .i64 a] 25) := ⟨_, rfl⟩
  have bw1 : Below w.heap.size w w1 := by rw [hw1]; exact (Below.refl _ _).alloc (Nat.le_refl _) _
  have Xw1 : Bx w1 w.heap.size 25 #[.int .i64 r, .int .i64 c, .int .i64 b, .int .i64 p, .int .i64 a] := by rw [hw1]; exact Bx.new _ _ _ rfl
  rw [← hw1]
  clear hw1
  have X_w1 := Lib.hid (Xw1)
  have z0_w1 : w.heap.size < w1.heap.size := Xw1.lt
  clear Xw1
  clear hmu hdu hau hbu hy'
  go_at_call 6
  (with_reducible refine (cP.out _).mono ?_)
  rintro e w2 ⟨rfl, hb2⟩
  have X_w2 := Lib.hid (X_w1.out.below hb2)
  have z0_w2 : w.heap.size < w2.heap.size := Nat.lt_of_lt_of_le z0_w1 hb2.size
  have B_w2 := bt bw1 hb2
  clear X_w1 z0_w1 bw1 hb2
  have o_X_0 := X_w2.out.c (i := 0) rfl
  have o_X_1 := X_w2.out.c (i := 1) rfl
  have o_X_2 := X_w2.out.c (i := 2) rfl
  have o_X_3 := X_w2.out.c (i := 3) rfl
  have o_X_4 := X_w2.out.c (i := 4) rfl
  go_wp2_with fail
  clear o_X_0 o_X_1 o_X_2 o_X_3 o_X_4
  go_at_call 7
  (with_reducible refine (cW.out _).mono ?_)
  rintro e w3 ⟨rfl, hb3⟩
  have X_w3 := Lib.hid (X_w2.out.below hb3)
  have z0_w3 : w.heap.size < w3.heap.size := Nat.lt_of_lt_of_le z0_w2 hb3.size
  have B_w3 := bt B_w2 hb3
  clear X_w2 z0_w2 B_w2 hb3
  have o_X_0 := X_w3.out.c (i := 0) rfl
  have o_X_1 := X_w3.out.c (i := 1) rfl
  have o_X_2 := X_w3.out.c (i := 2) rfl
  have o_X_3 := X_w3.out.c (i := 3) rfl
  have o_X_4 := X_w3.out.c (i := 4) rfl
  go_wp2_with fail
  clear o_X_0 o_X_1 o_X_2 o_X_3 o_X_4
  go_at_call 12
  (with_reducible refine (cR.out _).mono ?_)
  rintro e w4 ⟨rfl, hb4⟩
  have X_w4 := Lib.hid (X_w3.out.below hb4)
  have z0_w4 : w.heap.size < w4.heap.size := Nat.lt_of_lt_of_le z0_w3 hb4.size
  have B_w4 := bt B_w3 hb4
  clear X_w3 z0_w3 B_w3 hb4
  go_wp2_with fail
  go_at_call 14
  (with_reducible refine (alive_any _).mono ?_)
  rintro e w5 ⟨rfl, hb5⟩
  have X_w5 := Lib.hid (X_w4.out.below hb5)
  have z0_w5 : w.heap.size < w5.heap.size := Nat.lt_of_lt_of_le z0_w4 hb5.size
  have B_w5 := bt B_w4 hb5
  clear X_w4 z0_w4 B_w4 hb5
  go_wp2_with fail
  go_at_call 9
  (with_reducible refine (cU.out _).mono ?_)
  rintro e w6 ⟨rfl, hb6⟩
  have X_w6 := Lib.hid (X_w5.out.below hb6)
  have z0_w6 : w.heap.size < w6.heap.size := Nat.lt_of_lt_of_le z0_w5 hb6.size
  have B_w6 := bt B_w5 hb6
  clear X_w5 z0_w5 B_w5 hb6
  go_wp2_with fail
  obtain ⟨w7, hw7⟩ : ∃ W, W = w6.alloc (.cells #[.int .i64 d1, .int .i64 d2, .int .i64 d3, .int .i64 d4, .int .i64 d5] 25) := ⟨_, rfl⟩
  have bw7 : Below w6.heap.size w6 w7 := by rw [hw7]; exact (Below.refl _ _).alloc (Nat.le_refl _) _
  have Xw7 : Bx w7 w6.heap.size 25 #[.int .i64 d1, .int .i64 d2, .int .i64 d3, .int .i64 d4, .int .i64 d5] := by rw [hw7]; exact Bx.new _ _ _ rfl
  rw [← hw7]
  clear hw7
  have X_w7 := Lib.hid (X_w6.out.below bw7)
  have D_w7 := Lib.hid (Xw7)
  have z0_w7 : w.heap.size < w7.heap.size := Nat.lt_of_lt_of_le z0_w6 bw7.size
  have B_w7 := bt B_w6 bw7
  clear X_w6 z0_w6 B_w6 bw7
  have z1_w7 : w6.heap.size < w7.heap.size := Xw7.lt
  clear Xw7
  go_at_call 7
  (with_reducible refine (cV.out _).mono ?_)
  rintro e w8 ⟨rfl, hb8⟩
  have X_w8 := Lib.hid (X_w7.out.below hb8)
  have D_w8 := Lib.hid (D_w7.out.below hb8)
  have z0_w8 : w.heap.size < w8.heap.size := Nat.lt_of_lt_of_le z0_w7 hb8.size
  have z1_w8 : w6.heap.size < w8.heap.size := Nat.lt_of_lt_of_le z1_w7 hb8.size
  have B_w8 := bt B_w7 hb8
  clear X_w7 D_w7 z0_w7 z1_w7 B_w7 hb8
  have o_D_0 := D_w8.out.c (i := 0) rfl
  have o_D_1 := D_w8.out.c (i := 1) rfl
  have o_D_2 := D_w8.out.c (i := 2) rfl
  have o_D_3 := D_w8.out.c (i := 3) rfl
  have o_D_4 := D_w8.out.c (i := 4) rfl
  go_wp2_with fail
  clear o_D_0 o_D_1 o_D_2 o_D_3 o_D_4
  go_at_call 12
  (with_reducible refine (cRU.out _).mono ?_)
  rintro e w9 ⟨rfl, hb9⟩
  have X_w9 := Lib.hid (X_w8.out.below hb9)
  have D_w9 := Lib.hid (D_w8.out.below hb9)
  have z0_w9 : w.heap.size < w9.heap.size := Nat.lt_of_lt_of_le z0_w8 hb9.size
  have z1_w9 : w6.heap.size < w9.heap.size := Nat.lt_of_lt_of_le z1_w8 hb9.size
  have B_w9 := bt B_w8 hb9
  clear X_w8 D_w8 z0_w8 z1_w8 B_w8 hb9
  go_wp2_with fail
  go_ret
  exact ⟨rfl, B_w9⟩
set_option maxHeartbeats 8000000 in
theorem back_false_bad (r c b p a : Int) (y : ByteArray) (w : World) (hy : y.size ≤ maxLen) (hok : okC r c b p a = false) (u : ByteArray) (mu : Int) (hmu : min (y.size : Int) 130 = mu) (hdu : y.extract 0 mu.toNat = u) (hlu0 : u.size ≤ 130) (hu : uE u ≠ 0) : Calls TryQ.prog 4 #[cv r c b p a, .string y] w fun e w' => e = .returned (.bool true) ∧ Below w.heap.size w w' := by
  have hy' : y.size ≤ 9223372036854775807 := by unfold maxLen at hy; omega
  have hau : 0 ≤ mu := by omega
  have hbu : mu ≤ (y.size : Int) := by omega
  have hum : u.size ≤ maxLen := by unfold maxLen; omega
  have cR := Lib.hid (fun W => b_right_is _ _ _ _ _ _ hok W)
  have cP := Lib.hid (fun W => b_print_no _ _ _ _ _ W hok)
  have cW := Lib.hid (fun W => b_wrap_no _ _ _ _ _ W hok)
  obtain ⟨g, hg⟩ : ∃ g, uE u = g := ⟨_, rfl⟩
  rw [hg] at hu
  have cU := Lib.hid (fun W => (by
    have := b_unwrap_any u W hum
    rw [uTup_bad u g hg hu] at this
    exact this : Calls TryQ.prog 9 #[.string u] W fun e w' => e = .returned (.tuple #[cv 0 0 0 0 0, .int .i64 g]) ∧ Below W.heap.size W w'))
  have gne : (g != 0) = true := by simpa using hu
  clear hg
  replace hu := Lib.hid hu
  clear hy hok hum hlu0
  go_enter TryQ.func4, Try.ntmps4
  go_wp2_with fail
  obtain ⟨w1, hw1⟩ : ∃ W, W = w.alloc (.cells #[.int .i64 r, .int .i64 c, .int .i64 b, .int .i64 p, .int .i64 a] 25) := ⟨_, rfl⟩
  have bw1 : Below w.heap.size w w1 := by rw [hw1]; exact (Below.refl _ _).alloc (Nat.le_refl _) _
  have Xw1 : Bx w1 w.heap.size 25 #[.int .i64 r, .int .i64 c, .int .i64 b, .int .i64 p, .int .i64 a] := by rw [hw1]; exact Bx.new _ _ _ rfl
  rw [← hw1]
  clear hw1
  have X_w1 := Lib.hid (Xw1)
  have z0_w1 : w.heap.size < w1.heap.size := Xw1.lt
  clear Xw1
  clear hmu hdu hau hbu hy'
  go_at_call 6
  (with_reducible refine (cP.out _).mono ?_)
  rintro e w2 ⟨rfl, hb2⟩
  have X_w2 := Lib.hid (X_w1.out.below hb2)
  have z0_w2 : w.heap.size < w2.heap.size := Nat.lt_of_lt_of_le z0_w1 hb2.size
  have B_w2 := bt bw1 hb2
  clear X_w1 z0_w1 bw1 hb2
  have o_X_0 := X_w2.out.c (i := 0) rfl
  have o_X_1 := X_w2.out.c (i := 1) rfl
  have o_X_2 := X_w2.out.c (i := 2) rfl
  have o_X_3 := X_w2.out.c (i := 3) rfl
  have o_X_4 := X_w2.out.c (i := 4) rfl
  go_wp2_with fail
  clear o_X_0 o_X_1 o_X_2 o_X_3 o_X_4
  go_at_call 7
  (with_reducible refine (cW.out _).mono ?_)
  rintro e w3 ⟨rfl, hb3⟩
  have X_w3 := Lib.hid (X_w2.out.below hb3)
  have z0_w3 : w.heap.size < w3.heap.size := Nat.lt_of_lt_of_le z0_w2 hb3.size
  have B_w3 := bt B_w2 hb3
  clear X_w2 z0_w2 B_w2 hb3
  have o_X_0 := X_w3.out.c (i := 0) rfl
  have o_X_1 := X_w3.out.c (i := 1) rfl
  have o_X_2 := X_w3.out.c (i := 2) rfl
  have o_X_3 := X_w3.out.c (i := 3) rfl
  have o_X_4 := X_w3.out.c (i := 4) rfl
  go_wp2_with fail
  clear o_X_0 o_X_1 o_X_2 o_X_3 o_X_4
  go_at_call 12
  (with_reducible refine (cR.out _).mono ?_)
  rintro e w4 ⟨rfl, hb4⟩
  have X_w4 := Lib.hid (X_w3.out.below hb4)
  have z0_w4 : w.heap.size < w4.heap.size := Nat.lt_of_lt_of_le z0_w3 hb4.size
  have B_w4 := bt B_w3 hb4
  clear X_w3 z0_w3 B_w3 hb4
  go_wp2_with fail
  go_at_call 14
  (with_reducible refine (alive_any _).mono ?_)
  rintro e w5 ⟨rfl, hb5⟩
  have X_w5 := Lib.hid (X_w4.out.below hb5)
  have z0_w5 : w.heap.size < w5.heap.size := Nat.lt_of_lt_of_le z0_w4 hb5.size
  have B_w5 := bt B_w4 hb5
  clear X_w4 z0_w4 B_w4 hb5
  go_wp2_with fail
  go_at_call 9
  (with_reducible refine (cU.out _).mono ?_)
  rintro e w6 ⟨rfl, hb6⟩
  have X_w6 := Lib.hid (X_w5.out.below hb6)
  have z0_w6 : w.heap.size < w6.heap.size := Nat.lt_of_lt_of_le z0_w5 hb6.size
  have B_w6 := bt B_w5 hb6
  clear X_w5 z0_w5 B_w5 hb6
  go_wp2_with fail
  go_ret
  exact ⟨rfl, bt B_w6 ((Below.refl _ _).alloc (Nat.le_refl _) _)⟩
theorem back_go (v : Value) (y : ByteArray) (h : InCfg v) (hy : y.size ≤ maxLen) (w : World) : Calls TryQ.prog 4 #[v, .string y] w fun e w' => e = .returned (.bool true) ∧ Below w.heap.size w w' := by
  obtain ⟨r, c, b, p, a, rfl⟩ := h
  obtain ⟨mu, hmu⟩ : ∃ m : Int, min (y.size : Int) 130 = m := ⟨_, rfl⟩
  obtain ⟨u, hdu⟩ : ∃ e, y.extract 0 mu.toNat = e := ⟨_, rfl⟩
  have hlu : u.size ≤ 130 := by rw [← hdu, ByteArray.size_extract]; omega
  have hau : 0 ≤ mu := by omega
  have hbu : mu ≤ (y.size : Int) := by omega
  replace hlu := Lib.hid hlu
  by_cases hz : uE u = 0
  · cases ok : okC r c b p a
    · exact back_false_good r c b p a y w hy ok u mu hmu hdu hlu.out hz
    · exact back_true_good r c b p a y w hy ok u mu hmu hdu hlu.out hz
  · cases ok : okC r c b p a
    · exact back_false_bad r c b p a y w hy ok u mu hmu hdu hlu.out hz
    · exact back_true_bad r c b p a y w hy ok u mu hmu hdu hlu.out hz
end Go.Proofs.Ytlgfogllkoabpaa.QMacP
