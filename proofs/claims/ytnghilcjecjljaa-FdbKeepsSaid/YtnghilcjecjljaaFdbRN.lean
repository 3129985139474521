/-
  FdbKeeps, of a time that may be.
-/
import Derived.Test.YtnghilcjecjljaaFdbRH
namespace Go.Proofs.Ytnghilcjecjljaa.FdbP
open Go.RowKit Go.Sort Go.Proofs.Ytnghilcjecjljaa.SliceP Go.Proofs.Ytnghilcjecjljaa.MacP
set_option linter.unusedVariables false
set_option maxRecDepth 100000

set_option maxHeartbeats 64000000 in
theorem keeps_t (v : Value) (a port now : Int) {w : World} (h : InTab w v) (htm : timeB now = true) :
    Calls Try.prog 4 #[v, .int .i64 a, .int .i64 port, .int .i64 now] w (IntP.True1 w) := by
  replace htm := Lib.hid htm
  obtain ⟨A0, n0, c0, rs, bs0, s, ag, rfl, hT⟩ := h
  have HT := Lib.hid hT
  clear hT
  go_enter Try.func4, Try.ntmps4
  go_wp2_with fail
  obtain ⟨w1, hw1⟩ : ∃ W, W = w.alloc (.cells #[.slice A0 n0 c0, .int .i64 s, .int .i64 ag] 24) := ⟨_, rfl⟩
  have bw1 : Below w.heap.size w w1 := by rw [hw1]; exact (Below.refl _ _).alloc (Nat.le_refl _) _
  have Xw1 : Bx w1 w.heap.size 24 #[.slice A0 n0 c0, .int .i64 s, .int .i64 ag] := by rw [hw1]; exact Bx.new _ _ _ rfl
  rw [← hw1]
  clear hw1
  have T0_w1 := Lib.hid (Xw1)
  have z0_w1 : w.heap.size < w1.heap.size := Xw1.lt
  clear Xw1
  go_at_call 8
  (with_reducible refine (few_in s ag HT.out bw1 z0_w1).mono ?_)
  rintro e w2 ⟨A, n, c, rfl, T, hb2⟩
  have T0_w2 := Lib.hid (T0_w1.out.below hb2)
  have T_w2 := Lib.hid (T)
  have z0_w2 : w.heap.size < w2.heap.size := Nat.lt_of_lt_of_le z0_w1 hb2.size
  have B_w2 := bt bw1 hb2
  clear T0_w1 z0_w1 bw1 hb2
  clear T
  have o_T0_0 := T0_w2.out.c (i := 0) rfl
  have o_T0_1 := T0_w2.out.c (i := 1) rfl
  have o_T0_2 := T0_w2.out.c (i := 2) rfl
  have p_T0_0 := T0_w2.out.f 0
  have p_T0_1 := T0_w2.out.f 1
  have p_T0_2 := T0_w2.out.f 2
  go_wp2_with fail
  clear o_T0_0 o_T0_1 o_T0_2 p_T0_0 p_T0_1 p_T0_2
  obtain ⟨w9, hw9⟩ : ∃ W, W = (((w2.setCell ⟨w.heap.size, 0, none⟩ (.slice A n c)).setCell ⟨w.heap.size, 1, none⟩ (.int .i64 s)).setCell ⟨w.heap.size, 2, none⟩ (.int .i64 ag)) := ⟨_, rfl⟩
  have B_w9 : Below w.heap.size w w9 := by rw [hw9]; exact below3 B_w2 (Nat.le_refl _) _ _ _
  have T0_w9 := Lib.hid (show Bx w9 w.heap.size 24 #[.slice A n c, .int .i64 s, .int .i64 ag] by rw [hw9]; exact T0_w2.out.three)
  have T_w9 := Lib.hid (show TabS w9 A n c (fewT bs0) by rw [hw9]; exact (T_w2.out.off (Off.three _ _ _ _)).tab)
  have z0_w9 : w.heap.size < w9.heap.size := T0_w9.out.lt
  have hsm := fewT_small bs0
  have hbl := fewT_bl bs0
  rw [← hw9]
  clear hw9 HT T0_w2 T_w2 B_w2 z0_w2
  generalize fewT bs0 = bs at *
  replace hsm := Lib.hid hsm
  replace hbl := Lib.hid hbl
  have hMac := Lib.hid fun W => r_mac_any a W
  have hTime := Lib.hid fun W => r_time_any now W
  have hPort := Lib.hid fun W => r_port_any port W
  cases hr : rightT bs s ag with
  | false =>
   replace hr := Lib.hid hr
   have o_T0_0 := T0_w9.out.c (i := 0) rfl
   have o_T0_1 := T0_w9.out.c (i := 1) rfl
   have o_T0_2 := T0_w9.out.c (i := 2) rfl
   go_wp2_with fail
   clear o_T0_0 o_T0_1 o_T0_2
   go_at_call 23
   (with_reducible refine (pin_bad T_w9.out hsm.out hr.out).mono ?_)
   rintro e w10 ⟨A1, n1, c1, rfl, T1, hb10⟩
   have T0_w10 := Lib.hid (T0_w9.out.below hb10)
   have T_w10 := Lib.hid (T_w9.out.below hb10)
   have T1_w10 := Lib.hid (T1)
   have z0_w10 : w.heap.size < w10.heap.size := Nat.lt_of_lt_of_le z0_w9 hb10.size
   have B_w10 := bt B_w9 hb10
   clear T0_w9 T_w9 z0_w9 B_w9 hb10
   clear T1
   have o_T0_0 := T0_w10.out.c (i := 0) rfl
   have o_T0_1 := T0_w10.out.c (i := 1) rfl
   have o_T0_2 := T0_w10.out.c (i := 2) rfl
   go_wp2_with fail
   clear o_T0_0 o_T0_1 o_T0_2
   obtain ⟨w11, hw11⟩ : ∃ W, W = w10.alloc (.cells #[.slice A1 n1 c1, .int .i64 0, .int .i64 0] 24) := ⟨_, rfl⟩
   have bw11 : Below w10.heap.size w10 w11 := by rw [hw11]; exact (Below.refl _ _).alloc (Nat.le_refl _) _
   have Xw11 : Bx w11 w10.heap.size 24 #[.slice A1 n1 c1, .int .i64 0, .int .i64 0] := by rw [hw11]; exact Bx.new _ _ _ rfl
   rw [← hw11]
   clear hw11
   have T0_w11 := Lib.hid (T0_w10.out.below bw11)
   have T_w11 := Lib.hid (T_w10.out.below bw11)
   have T1_w11 := Lib.hid (T1_w10.out.below bw11)
   have B1_w11 := Lib.hid (Xw11)
   have z0_w11 : w.heap.size < w11.heap.size := Nat.lt_of_lt_of_le z0_w10 bw11.size
   have B_w11 := bt B_w10 bw11
   clear T0_w10 T_w10 T1_w10 z0_w10 B_w10 bw11
   have z1_w11 : w10.heap.size < w11.heap.size := Xw11.lt
   clear Xw11
   go_at_call 24
   (with_reducible refine (unpin_bad T_w11.out hsm.out hr.out).mono ?_)
   rintro e w12 ⟨A2, n2, c2, rfl, T2, hb12⟩
   have T0_w12 := Lib.hid (T0_w11.out.below hb12)
   have T_w12 := Lib.hid (T_w11.out.below hb12)
   have T1_w12 := Lib.hid (T1_w11.out.below hb12)
   have B1_w12 := Lib.hid (B1_w11.out.below hb12)
   have T2_w12 := Lib.hid (T2)
   have z0_w12 : w.heap.size < w12.heap.size := Nat.lt_of_lt_of_le z0_w11 hb12.size
   have z1_w12 : w10.heap.size < w12.heap.size := Nat.lt_of_lt_of_le z1_w11 hb12.size
   have B_w12 := bt B_w11 hb12
   clear T0_w11 T_w11 T1_w11 B1_w11 z0_w11 z1_w11 B_w11 hb12
   clear T2
   have o_T0_0 := T0_w12.out.c (i := 0) rfl
   have o_T0_1 := T0_w12.out.c (i := 1) rfl
   have o_T0_2 := T0_w12.out.c (i := 2) rfl
   go_wp2_with fail
   clear o_T0_0 o_T0_1 o_T0_2
   obtain ⟨w13, hw13⟩ : ∃ W, W = w12.alloc (.cells #[.slice A2 n2 c2, .int .i64 0, .int .i64 0] 24) := ⟨_, rfl⟩
   have bw13 : Below w12.heap.size w12 w13 := by rw [hw13]; exact (Below.refl _ _).alloc (Nat.le_refl _) _
   have Xw13 : Bx w13 w12.heap.size 24 #[.slice A2 n2 c2, .int .i64 0, .int .i64 0] := by rw [hw13]; exact Bx.new _ _ _ rfl
   rw [← hw13]
   clear hw13
   have T0_w13 := Lib.hid (T0_w12.out.below bw13)
   have T_w13 := Lib.hid (T_w12.out.below bw13)
   have T1_w13 := Lib.hid (T1_w12.out.below bw13)
   have B1_w13 := Lib.hid (B1_w12.out.below bw13)
   have T2_w13 := Lib.hid (T2_w12.out.below bw13)
   have B2_w13 := Lib.hid (Xw13)
   have z0_w13 : w.heap.size < w13.heap.size := Nat.lt_of_lt_of_le z0_w12 bw13.size
   have z1_w13 : w10.heap.size < w13.heap.size := Nat.lt_of_lt_of_le z1_w12 bw13.size
   have B_w13 := bt B_w12 bw13
   clear T0_w12 T_w12 T1_w12 B1_w12 T2_w12 z0_w12 z1_w12 B_w12 bw13
   have z2_w13 : w12.heap.size < w13.heap.size := Xw13.lt
   clear Xw13
   go_at_call 25
   (with_reducible refine (sweep_bad T_w13.out hsm.out hr.out).mono ?_)
   rintro e w14 ⟨A3, n3, c3, rfl, T3, hb14⟩
   have T0_w14 := Lib.hid (T0_w13.out.below hb14)
   have T_w14 := Lib.hid (T_w13.out.below hb14)
   have T1_w14 := Lib.hid (T1_w13.out.below hb14)
   have B1_w14 := Lib.hid (B1_w13.out.below hb14)
   have T2_w14 := Lib.hid (T2_w13.out.below hb14)
   have B2_w14 := Lib.hid (B2_w13.out.below hb14)
   have T3_w14 := Lib.hid (T3)
   have z0_w14 : w.heap.size < w14.heap.size := Nat.lt_of_lt_of_le z0_w13 hb14.size
   have z1_w14 : w10.heap.size < w14.heap.size := Nat.lt_of_lt_of_le z1_w13 hb14.size
   have z2_w14 : w12.heap.size < w14.heap.size := Nat.lt_of_lt_of_le z2_w13 hb14.size
   have B_w14 := bt B_w13 hb14
   clear T0_w13 T_w13 T1_w13 B1_w13 T2_w13 B2_w13 z0_w13 z1_w13 z2_w13 B_w13 hb14
   clear T3
   have o_T0_0 := T0_w14.out.c (i := 0) rfl
   have o_T0_1 := T0_w14.out.c (i := 1) rfl
   have o_T0_2 := T0_w14.out.c (i := 2) rfl
   go_wp2_with fail
   clear o_T0_0 o_T0_1 o_T0_2
   obtain ⟨w15, hw15⟩ : ∃ W, W = w14.alloc (.cells #[.slice A3 n3 c3, .int .i64 0, .int .i64 0] 24) := ⟨_, rfl⟩
   have bw15 : Below w14.heap.size w14 w15 := by rw [hw15]; exact (Below.refl _ _).alloc (Nat.le_refl _) _
   have Xw15 : Bx w15 w14.heap.size 24 #[.slice A3 n3 c3, .int .i64 0, .int .i64 0] := by rw [hw15]; exact Bx.new _ _ _ rfl
   rw [← hw15]
   clear hw15
   have T0_w15 := Lib.hid (T0_w14.out.below bw15)
   have T_w15 := Lib.hid (T_w14.out.below bw15)
   have T1_w15 := Lib.hid (T1_w14.out.below bw15)
   have B1_w15 := Lib.hid (B1_w14.out.below bw15)
   have T2_w15 := Lib.hid (T2_w14.out.below bw15)
   have B2_w15 := Lib.hid (B2_w14.out.below bw15)
   have T3_w15 := Lib.hid (T3_w14.out.below bw15)
   have B3_w15 := Lib.hid (Xw15)
   have z0_w15 : w.heap.size < w15.heap.size := Nat.lt_of_lt_of_le z0_w14 bw15.size
   have z1_w15 : w10.heap.size < w15.heap.size := Nat.lt_of_lt_of_le z1_w14 bw15.size
   have z2_w15 : w12.heap.size < w15.heap.size := Nat.lt_of_lt_of_le z2_w14 bw15.size
   have B_w15 := bt B_w14 bw15
   clear T0_w14 T_w14 T1_w14 B1_w14 T2_w14 B2_w14 T3_w14 z0_w14 z1_w14 z2_w14 B_w14 bw15
   have z3_w15 : w14.heap.size < w15.heap.size := Xw15.lt
   clear Xw15
   go_at_call 26
   (with_reducible refine (flush_bad T_w15.out hsm.out hr.out).mono ?_)
   rintro e w16 ⟨A4, n4, c4, rfl, T4, hb16⟩
   have T0_w16 := Lib.hid (T0_w15.out.below hb16)
   have T_w16 := Lib.hid (T_w15.out.below hb16)
   have T1_w16 := Lib.hid (T1_w15.out.below hb16)
   have B1_w16 := Lib.hid (B1_w15.out.below hb16)
   have T2_w16 := Lib.hid (T2_w15.out.below hb16)
   have B2_w16 := Lib.hid (B2_w15.out.below hb16)
   have T3_w16 := Lib.hid (T3_w15.out.below hb16)
   have B3_w16 := Lib.hid (B3_w15.out.below hb16)
   have T4_w16 := Lib.hid (T4)
   have z0_w16 : w.heap.size < w16.heap.size := Nat.lt_of_lt_of_le z0_w15 hb16.size
   have z1_w16 : w10.heap.size < w16.heap.size := Nat.lt_of_lt_of_le z1_w15 hb16.size
   have z2_w16 : w12.heap.size < w16.heap.size := Nat.lt_of_lt_of_le z2_w15 hb16.size
   have z3_w16 : w14.heap.size < w16.heap.size := Nat.lt_of_lt_of_le z3_w15 hb16.size
   have B_w16 := bt B_w15 hb16
   clear T0_w15 T_w15 T1_w15 B1_w15 T2_w15 B2_w15 T3_w15 B3_w15 z0_w15 z1_w15 z2_w15 z3_w15 B_w15 hb16
   clear T4
   have o_T0_0 := T0_w16.out.c (i := 0) rfl
   have o_T0_1 := T0_w16.out.c (i := 1) rfl
   have o_T0_2 := T0_w16.out.c (i := 2) rfl
   go_wp2_with fail
   clear o_T0_0 o_T0_1 o_T0_2
   have e16 : w16.heap.size + 1 = (w16.alloc (.cells #[.slice A4 n4 c4, .int .i64 0, .int .i64 0] 24)).heap.size := by simp
   rw [e16]
   clear e16
   obtain ⟨w17, hw17⟩ : ∃ W, W = w16.alloc (.cells #[.slice A4 n4 c4, .int .i64 0, .int .i64 0] 24) := ⟨_, rfl⟩
   have bw17 : Below w16.heap.size w16 w17 := by rw [hw17]; exact (Below.refl _ _).alloc (Nat.le_refl _) _
   have Xw17 : Bx w17 w16.heap.size 24 #[.slice A4 n4 c4, .int .i64 0, .int .i64 0] := by rw [hw17]; exact Bx.new _ _ _ rfl
   rw [← hw17]
   clear hw17
   have T0_w17 := Lib.hid (T0_w16.out.below bw17)
   have T_w17 := Lib.hid (T_w16.out.below bw17)
   have T1_w17 := Lib.hid (T1_w16.out.below bw17)
   have B1_w17 := Lib.hid (B1_w16.out.below bw17)
   have T2_w17 := Lib.hid (T2_w16.out.below bw17)
   have B2_w17 := Lib.hid (B2_w16.out.below bw17)
   have T3_w17 := Lib.hid (T3_w16.out.below bw17)
   have B3_w17 := Lib.hid (B3_w16.out.below bw17)
   have T4_w17 := Lib.hid (T4_w16.out.below bw17)
   have B4_w17 := Lib.hid (Xw17)
   have z0_w17 : w.heap.size < w17.heap.size := Nat.lt_of_lt_of_le z0_w16 bw17.size
   have z1_w17 : w10.heap.size < w17.heap.size := Nat.lt_of_lt_of_le z1_w16 bw17.size
   have z2_w17 : w12.heap.size < w17.heap.size := Nat.lt_of_lt_of_le z2_w16 bw17.size
   have z3_w17 : w14.heap.size < w17.heap.size := Nat.lt_of_lt_of_le z3_w16 bw17.size
   have B_w17 := bt B_w16 bw17
   clear T0_w16 T_w16 T1_w16 B1_w16 T2_w16 B2_w16 T3_w16 B3_w16 T4_w16 z0_w16 z1_w16 z2_w16 z3_w16 B_w16 bw17
   have z4_w17 : w16.heap.size < w17.heap.size := Xw17.lt
   clear Xw17
   obtain ⟨w18, hw18⟩ : ∃ W, W = w17.alloc (.cells #[.slice none 0 0, .int .i64 0, .int .i64 0] 24) := ⟨_, rfl⟩
   have bw18 : Below w17.heap.size w17 w18 := by rw [hw18]; exact (Below.refl _ _).alloc (Nat.le_refl _) _
   have Xw18 : Bx w18 w17.heap.size 24 #[.slice none 0 0, .int .i64 0, .int .i64 0] := by rw [hw18]; exact Bx.new _ _ _ rfl
   rw [← hw18]
   clear hw18
   have T0_w18 := Lib.hid (T0_w17.out.below bw18)
   have T_w18 := Lib.hid (T_w17.out.below bw18)
   have T1_w18 := Lib.hid (T1_w17.out.below bw18)
   have B1_w18 := Lib.hid (B1_w17.out.below bw18)
   have T2_w18 := Lib.hid (T2_w17.out.below bw18)
   have B2_w18 := Lib.hid (B2_w17.out.below bw18)
   have T3_w18 := Lib.hid (T3_w17.out.below bw18)
   have B3_w18 := Lib.hid (B3_w17.out.below bw18)
   have T4_w18 := Lib.hid (T4_w17.out.below bw18)
   have B4_w18 := Lib.hid (B4_w17.out.below bw18)
   have None_w18 := Lib.hid (Xw18)
   have z0_w18 : w.heap.size < w18.heap.size := Nat.lt_of_lt_of_le z0_w17 bw18.size
   have z1_w18 : w10.heap.size < w18.heap.size := Nat.lt_of_lt_of_le z1_w17 bw18.size
   have z2_w18 : w12.heap.size < w18.heap.size := Nat.lt_of_lt_of_le z2_w17 bw18.size
   have z3_w18 : w14.heap.size < w18.heap.size := Nat.lt_of_lt_of_le z3_w17 bw18.size
   have z4_w18 : w16.heap.size < w18.heap.size := Nat.lt_of_lt_of_le z4_w17 bw18.size
   have B_w18 := bt B_w17 bw18
   clear T0_w17 T_w17 T1_w17 B1_w17 T2_w17 B2_w17 T3_w17 B3_w17 T4_w17 B4_w17 z0_w17 z1_w17 z2_w17 z3_w17 z4_w17 B_w17 bw18
   have z5_w18 : w17.heap.size < w18.heap.size := Xw18.lt
   clear Xw18
   go_at_call 13
   (with_reducible refine (r_right s ag T_w18.out hsm.out _ hr.out).mono ?_)
   rintro e w19 ⟨rfl, hb19⟩
   have T0_w19 := Lib.hid (T0_w18.out.below hb19)
   have T_w19 := Lib.hid (T_w18.out.below hb19)
   have T1_w19 := Lib.hid (T1_w18.out.below hb19)
   have B1_w19 := Lib.hid (B1_w18.out.below hb19)
   have T2_w19 := Lib.hid (T2_w18.out.below hb19)
   have B2_w19 := Lib.hid (B2_w18.out.below hb19)
   have T3_w19 := Lib.hid (T3_w18.out.below hb19)
   have B3_w19 := Lib.hid (B3_w18.out.below hb19)
   have T4_w19 := Lib.hid (T4_w18.out.below hb19)
   have B4_w19 := Lib.hid (B4_w18.out.below hb19)
   have None_w19 := Lib.hid (None_w18.out.below hb19)
   have z0_w19 : w.heap.size < w19.heap.size := Nat.lt_of_lt_of_le z0_w18 hb19.size
   have z1_w19 : w10.heap.size < w19.heap.size := Nat.lt_of_lt_of_le z1_w18 hb19.size
   have z2_w19 : w12.heap.size < w19.heap.size := Nat.lt_of_lt_of_le z2_w18 hb19.size
   have z3_w19 : w14.heap.size < w19.heap.size := Nat.lt_of_lt_of_le z3_w18 hb19.size
   have z4_w19 : w16.heap.size < w19.heap.size := Nat.lt_of_lt_of_le z4_w18 hb19.size
   have z5_w19 : w17.heap.size < w19.heap.size := Nat.lt_of_lt_of_le z5_w18 hb19.size
   have B_w19 := bt B_w18 hb19
   clear T0_w18 T_w18 T1_w18 B1_w18 T2_w18 B2_w18 T3_w18 B3_w18 T4_w18 B4_w18 None_w18 z0_w18 z1_w18 z2_w18 z3_w18 z4_w18 z5_w18 B_w18 hb19
   go_wp2_with fail
   go_at_call 14
   (with_reducible refine (alive_any _).mono ?_)
   rintro e w20 ⟨rfl, hb20⟩
   have T0_w20 := Lib.hid (T0_w19.out.below hb20)
   have T_w20 := Lib.hid (T_w19.out.below hb20)
   have T1_w20 := Lib.hid (T1_w19.out.below hb20)
   have B1_w20 := Lib.hid (B1_w19.out.below hb20)
   have T2_w20 := Lib.hid (T2_w19.out.below hb20)
   have B2_w20 := Lib.hid (B2_w19.out.below hb20)
   have T3_w20 := Lib.hid (T3_w19.out.below hb20)
   have B3_w20 := Lib.hid (B3_w19.out.below hb20)
   have T4_w20 := Lib.hid (T4_w19.out.below hb20)
   have B4_w20 := Lib.hid (B4_w19.out.below hb20)
   have None_w20 := Lib.hid (None_w19.out.below hb20)
   have z0_w20 : w.heap.size < w20.heap.size := Nat.lt_of_lt_of_le z0_w19 hb20.size
   have z1_w20 : w10.heap.size < w20.heap.size := Nat.lt_of_lt_of_le z1_w19 hb20.size
   have z2_w20 : w12.heap.size < w20.heap.size := Nat.lt_of_lt_of_le z2_w19 hb20.size
   have z3_w20 : w14.heap.size < w20.heap.size := Nat.lt_of_lt_of_le z3_w19 hb20.size
   have z4_w20 : w16.heap.size < w20.heap.size := Nat.lt_of_lt_of_le z4_w19 hb20.size
   have z5_w20 : w17.heap.size < w20.heap.size := Nat.lt_of_lt_of_le z5_w19 hb20.size
   have B_w20 := bt B_w19 hb20
   clear T0_w19 T_w19 T1_w19 B1_w19 T2_w19 B2_w19 T3_w19 B3_w19 T4_w19 B4_w19 None_w19 z0_w19 z1_w19 z2_w19 z3_w19 z4_w19 z5_w19 B_w19 hb20
   have o_B1_0 := B1_w20.out.c (i := 0) rfl
   have o_B1_1 := B1_w20.out.c (i := 1) rfl
   have o_B1_2 := B1_w20.out.c (i := 2) rfl
   have o_None_0 := None_w20.out.c (i := 0) rfl
   have o_None_1 := None_w20.out.c (i := 1) rfl
   have o_None_2 := None_w20.out.c (i := 2) rfl
   go_wp2_with fail
   clear o_B1_0 o_B1_1 o_B1_2 o_None_0 o_None_1 o_None_2
   go_at_call 16
   (with_reducible refine (r_same 0 0 T1_w20.out.tab (TabS.empty _) small_nil').mono ?_)
   rintro e w21 ⟨rfl, hb21⟩
   have T0_w21 := Lib.hid (T0_w20.out.below hb21)
   have T_w21 := Lib.hid (T_w20.out.below hb21)
   have T1_w21 := Lib.hid (T1_w20.out.below hb21)
   have B1_w21 := Lib.hid (B1_w20.out.below hb21)
   have T2_w21 := Lib.hid (T2_w20.out.below hb21)
   have B2_w21 := Lib.hid (B2_w20.out.below hb21)
   have T3_w21 := Lib.hid (T3_w20.out.below hb21)
   have B3_w21 := Lib.hid (B3_w20.out.below hb21)
   have T4_w21 := Lib.hid (T4_w20.out.below hb21)
   have B4_w21 := Lib.hid (B4_w20.out.below hb21)
   have None_w21 := Lib.hid (None_w20.out.below hb21)
   have z0_w21 : w.heap.size < w21.heap.size := Nat.lt_of_lt_of_le z0_w20 hb21.size
   have z1_w21 : w10.heap.size < w21.heap.size := Nat.lt_of_lt_of_le z1_w20 hb21.size
   have z2_w21 : w12.heap.size < w21.heap.size := Nat.lt_of_lt_of_le z2_w20 hb21.size
   have z3_w21 : w14.heap.size < w21.heap.size := Nat.lt_of_lt_of_le z3_w20 hb21.size
   have z4_w21 : w16.heap.size < w21.heap.size := Nat.lt_of_lt_of_le z4_w20 hb21.size
   have z5_w21 : w17.heap.size < w21.heap.size := Nat.lt_of_lt_of_le z5_w20 hb21.size
   have B_w21 := bt B_w20 hb21
   clear T0_w20 T_w20 T1_w20 B1_w20 T2_w20 B2_w20 T3_w20 B3_w20 T4_w20 B4_w20 None_w20 z0_w20 z1_w20 z2_w20 z3_w20 z4_w20 z5_w20 B_w20 hb21
   have o_B2_0 := B2_w21.out.c (i := 0) rfl
   have o_B2_1 := B2_w21.out.c (i := 1) rfl
   have o_B2_2 := B2_w21.out.c (i := 2) rfl
   have o_None_0 := None_w21.out.c (i := 0) rfl
   have o_None_1 := None_w21.out.c (i := 1) rfl
   have o_None_2 := None_w21.out.c (i := 2) rfl
   go_wp2_with fail
   clear o_B2_0 o_B2_1 o_B2_2 o_None_0 o_None_1 o_None_2
   go_at_call 16
   (with_reducible refine (r_same 0 0 T2_w21.out.tab (TabS.empty _) small_nil').mono ?_)
   rintro e w22 ⟨rfl, hb22⟩
   have T0_w22 := Lib.hid (T0_w21.out.below hb22)
   have T_w22 := Lib.hid (T_w21.out.below hb22)
   have T1_w22 := Lib.hid (T1_w21.out.below hb22)
   have B1_w22 := Lib.hid (B1_w21.out.below hb22)
   have T2_w22 := Lib.hid (T2_w21.out.below hb22)
   have B2_w22 := Lib.hid (B2_w21.out.below hb22)
   have T3_w22 := Lib.hid (T3_w21.out.below hb22)
   have B3_w22 := Lib.hid (B3_w21.out.below hb22)
   have T4_w22 := Lib.hid (T4_w21.out.below hb22)
   have B4_w22 := Lib.hid (B4_w21.out.below hb22)
   have None_w22 := Lib.hid (None_w21.out.below hb22)
   have z0_w22 : w.heap.size < w22.heap.size := Nat.lt_of_lt_of_le z0_w21 hb22.size
   have z1_w22 : w10.heap.size < w22.heap.size := Nat.lt_of_lt_of_le z1_w21 hb22.size
   have z2_w22 : w12.heap.size < w22.heap.size := Nat.lt_of_lt_of_le z2_w21 hb22.size
   have z3_w22 : w14.heap.size < w22.heap.size := Nat.lt_of_lt_of_le z3_w21 hb22.size
   have z4_w22 : w16.heap.size < w22.heap.size := Nat.lt_of_lt_of_le z4_w21 hb22.size
   have z5_w22 : w17.heap.size < w22.heap.size := Nat.lt_of_lt_of_le z5_w21 hb22.size
   have B_w22 := bt B_w21 hb22
   clear T0_w21 T_w21 T1_w21 B1_w21 T2_w21 B2_w21 T3_w21 B3_w21 T4_w21 B4_w21 None_w21 z0_w21 z1_w21 z2_w21 z3_w21 z4_w21 z5_w21 B_w21 hb22
   have o_B3_0 := B3_w22.out.c (i := 0) rfl
   have o_B3_1 := B3_w22.out.c (i := 1) rfl
   have o_B3_2 := B3_w22.out.c (i := 2) rfl
   have o_None_0 := None_w22.out.c (i := 0) rfl
   have o_None_1 := None_w22.out.c (i := 1) rfl
   have o_None_2 := None_w22.out.c (i := 2) rfl
   go_wp2_with fail
   clear o_B3_0 o_B3_1 o_B3_2 o_None_0 o_None_1 o_None_2
   go_at_call 16
   (with_reducible refine (r_same 0 0 T3_w22.out.tab (TabS.empty _) small_nil').mono ?_)
   rintro e w23 ⟨rfl, hb23⟩
   have T0_w23 := Lib.hid (T0_w22.out.below hb23)
   have T_w23 := Lib.hid (T_w22.out.below hb23)
   have T1_w23 := Lib.hid (T1_w22.out.below hb23)
   have B1_w23 := Lib.hid (B1_w22.out.below hb23)
   have T2_w23 := Lib.hid (T2_w22.out.below hb23)
   have B2_w23 := Lib.hid (B2_w22.out.below hb23)
   have T3_w23 := Lib.hid (T3_w22.out.below hb23)
   have B3_w23 := Lib.hid (B3_w22.out.below hb23)
   have T4_w23 := Lib.hid (T4_w22.out.below hb23)
   have B4_w23 := Lib.hid (B4_w22.out.below hb23)
   have None_w23 := Lib.hid (None_w22.out.below hb23)
   have z0_w23 : w.heap.size < w23.heap.size := Nat.lt_of_lt_of_le z0_w22 hb23.size
   have z1_w23 : w10.heap.size < w23.heap.size := Nat.lt_of_lt_of_le z1_w22 hb23.size
   have z2_w23 : w12.heap.size < w23.heap.size := Nat.lt_of_lt_of_le z2_w22 hb23.size
   have z3_w23 : w14.heap.size < w23.heap.size := Nat.lt_of_lt_of_le z3_w22 hb23.size
   have z4_w23 : w16.heap.size < w23.heap.size := Nat.lt_of_lt_of_le z4_w22 hb23.size
   have z5_w23 : w17.heap.size < w23.heap.size := Nat.lt_of_lt_of_le z5_w22 hb23.size
   have B_w23 := bt B_w22 hb23
   clear T0_w22 T_w22 T1_w22 B1_w22 T2_w22 B2_w22 T3_w22 B3_w22 T4_w22 B4_w22 None_w22 z0_w22 z1_w22 z2_w22 z3_w22 z4_w22 z5_w22 B_w22 hb23
   have o_B4_0 := B4_w23.out.c (i := 0) rfl
   have o_B4_1 := B4_w23.out.c (i := 1) rfl
   have o_B4_2 := B4_w23.out.c (i := 2) rfl
   have o_None_0 := None_w23.out.c (i := 0) rfl
   have o_None_1 := None_w23.out.c (i := 1) rfl
   have o_None_2 := None_w23.out.c (i := 2) rfl
   go_wp2_with fail
   clear o_B4_0 o_B4_1 o_B4_2 o_None_0 o_None_1 o_None_2
   go_at_call 16
   (with_reducible refine (r_same 0 0 T4_w23.out.tab (TabS.empty _) small_nil').mono ?_)
   rintro e w24 ⟨rfl, hb24⟩
   have T0_w24 := Lib.hid (T0_w23.out.below hb24)
   have T_w24 := Lib.hid (T_w23.out.below hb24)
   have T1_w24 := Lib.hid (T1_w23.out.below hb24)
   have B1_w24 := Lib.hid (B1_w23.out.below hb24)
   have T2_w24 := Lib.hid (T2_w23.out.below hb24)
   have B2_w24 := Lib.hid (B2_w23.out.below hb24)
   have T3_w24 := Lib.hid (T3_w23.out.below hb24)
   have B3_w24 := Lib.hid (B3_w23.out.below hb24)
   have T4_w24 := Lib.hid (T4_w23.out.below hb24)
   have B4_w24 := Lib.hid (B4_w23.out.below hb24)
   have None_w24 := Lib.hid (None_w23.out.below hb24)
   have z0_w24 : w.heap.size < w24.heap.size := Nat.lt_of_lt_of_le z0_w23 hb24.size
   have z1_w24 : w10.heap.size < w24.heap.size := Nat.lt_of_lt_of_le z1_w23 hb24.size
   have z2_w24 : w12.heap.size < w24.heap.size := Nat.lt_of_lt_of_le z2_w23 hb24.size
   have z3_w24 : w14.heap.size < w24.heap.size := Nat.lt_of_lt_of_le z3_w23 hb24.size
   have z4_w24 : w16.heap.size < w24.heap.size := Nat.lt_of_lt_of_le z4_w23 hb24.size
   have z5_w24 : w17.heap.size < w24.heap.size := Nat.lt_of_lt_of_le z5_w23 hb24.size
   have B_w24 := bt B_w23 hb24
   clear T0_w23 T_w23 T1_w23 B1_w23 T2_w23 B2_w23 T3_w23 B3_w23 T4_w23 B4_w23 None_w23 z0_w23 z1_w23 z2_w23 z3_w23 z4_w23 z5_w23 B_w23 hb24
   go_wp2_with fail
   go_ret
   exact ⟨rfl, B_w24⟩
  | true =>
   have hnb := Lib.hid (right_sizes hr).1
   obtain ⟨bx, sx, gx, ex, cX, hX⟩ := keep_pin a port hr
   obtain ⟨by_, sy, gy, ey, cY, hY⟩ := keep_unpin a hr
   obtain ⟨bz, sz, gz, ez, cZ, hZ⟩ := keep_sweep now hr
   obtain ⟨bu, su, gu, eu, cU, hU⟩ := keep_flush port hr
   replace cX := Lib.hid cX
   replace cY := Lib.hid cY
   replace cZ := Lib.hid cZ
   replace cU := Lib.hid cU
   replace hX := Lib.hid hX
   replace hY := Lib.hid hY
   replace hZ := Lib.hid hZ
   replace hU := Lib.hid hU
   replace hr := Lib.hid hr
   have o_T0_0 := T0_w9.out.c (i := 0) rfl
   have o_T0_1 := T0_w9.out.c (i := 1) rfl
   have o_T0_2 := T0_w9.out.c (i := 2) rfl
   go_wp2_with fail
   clear o_T0_0 o_T0_1 o_T0_2
   go_at_call 23
   (with_reducible refine (cX.out _ _ _ _ T_w9.out).mono ?_)
   rintro e w10 ⟨A1, n1, c1, rfl, T1, hb10⟩
   have T0_w10 := Lib.hid (T0_w9.out.below hb10)
   have T_w10 := Lib.hid (T_w9.out.below hb10)
   have T1_w10 := Lib.hid (T1)
   have z0_w10 : w.heap.size < w10.heap.size := Nat.lt_of_lt_of_le z0_w9 hb10.size
   have B_w10 := bt B_w9 hb10
   clear T0_w9 T_w9 z0_w9 B_w9 hb10
   clear T1
   have o_T0_0 := T0_w10.out.c (i := 0) rfl
   have o_T0_1 := T0_w10.out.c (i := 1) rfl
   have o_T0_2 := T0_w10.out.c (i := 2) rfl
   go_wp2_with fail
   clear o_T0_0 o_T0_1 o_T0_2
   obtain ⟨w11, hw11⟩ : ∃ W, W = w10.alloc (.cells #[.slice A1 n1 c1, .int .i64 sx, .int .i64 gx] 24) := ⟨_, rfl⟩
   have bw11 : Below w10.heap.size w10 w11 := by rw [hw11]; exact (Below.refl _ _).alloc (Nat.le_refl _) _
   have Xw11 : Bx w11 w10.heap.size 24 #[.slice A1 n1 c1, .int .i64 sx, .int .i64 gx] := by rw [hw11]; exact Bx.new _ _ _ rfl
   rw [← hw11]
   clear hw11
   have T0_w11 := Lib.hid (T0_w10.out.below bw11)
   have T_w11 := Lib.hid (T_w10.out.below bw11)
   have T1_w11 := Lib.hid (T1_w10.out.below bw11)
   have B1_w11 := Lib.hid (Xw11)
   have z0_w11 : w.heap.size < w11.heap.size := Nat.lt_of_lt_of_le z0_w10 bw11.size
   have B_w11 := bt B_w10 bw11
   clear T0_w10 T_w10 T1_w10 z0_w10 B_w10 bw11
   have z1_w11 : w10.heap.size < w11.heap.size := Xw11.lt
   clear Xw11
   go_at_call 24
   (with_reducible refine (cY.out _ _ _ _ T_w11.out).mono ?_)
   rintro e w12 ⟨A2, n2, c2, rfl, T2, hb12⟩
   have T0_w12 := Lib.hid (T0_w11.out.below hb12)
   have T_w12 := Lib.hid (T_w11.out.below hb12)
   have T1_w12 := Lib.hid (T1_w11.out.below hb12)
   have B1_w12 := Lib.hid (B1_w11.out.below hb12)
   have T2_w12 := Lib.hid (T2)
   have z0_w12 : w.heap.size < w12.heap.size := Nat.lt_of_lt_of_le z0_w11 hb12.size
   have z1_w12 : w10.heap.size < w12.heap.size := Nat.lt_of_lt_of_le z1_w11 hb12.size
   have B_w12 := bt B_w11 hb12
   clear T0_w11 T_w11 T1_w11 B1_w11 z0_w11 z1_w11 B_w11 hb12
   clear T2
   have o_T0_0 := T0_w12.out.c (i := 0) rfl
   have o_T0_1 := T0_w12.out.c (i := 1) rfl
   have o_T0_2 := T0_w12.out.c (i := 2) rfl
   go_wp2_with fail
   clear o_T0_0 o_T0_1 o_T0_2
   obtain ⟨w13, hw13⟩ : ∃ W, W = w12.alloc (.cells #[.slice A2 n2 c2, .int .i64 sy, .int .i64 gy] 24) := ⟨_, rfl⟩
   have bw13 : Below w12.heap.size w12 w13 := by rw [hw13]; exact (Below.refl _ _).alloc (Nat.le_refl _) _
   have Xw13 : Bx w13 w12.heap.size 24 #[.slice A2 n2 c2, .int .i64 sy, .int .i64 gy] := by rw [hw13]; exact Bx.new _ _ _ rfl
   rw [← hw13]
   clear hw13
   have T0_w13 := Lib.hid (T0_w12.out.below bw13)
   have T_w13 := Lib.hid (T_w12.out.below bw13)
   have T1_w13 := Lib.hid (T1_w12.out.below bw13)
   have B1_w13 := Lib.hid (B1_w12.out.below bw13)
   have T2_w13 := Lib.hid (T2_w12.out.below bw13)
   have B2_w13 := Lib.hid (Xw13)
   have z0_w13 : w.heap.size < w13.heap.size := Nat.lt_of_lt_of_le z0_w12 bw13.size
   have z1_w13 : w10.heap.size < w13.heap.size := Nat.lt_of_lt_of_le z1_w12 bw13.size
   have B_w13 := bt B_w12 bw13
   clear T0_w12 T_w12 T1_w12 B1_w12 T2_w12 z0_w12 z1_w12 B_w12 bw13
   have z2_w13 : w12.heap.size < w13.heap.size := Xw13.lt
   clear Xw13
   go_at_call 25
   (with_reducible refine (cZ.out _ _ _ _ T_w13.out).mono ?_)
   rintro e w14 ⟨A3, n3, c3, rfl, T3, hb14⟩
   have T0_w14 := Lib.hid (T0_w13.out.below hb14)
   have T_w14 := Lib.hid (T_w13.out.below hb14)
   have T1_w14 := Lib.hid (T1_w13.out.below hb14)
   have B1_w14 := Lib.hid (B1_w13.out.below hb14)
   have T2_w14 := Lib.hid (T2_w13.out.below hb14)
   have B2_w14 := Lib.hid (B2_w13.out.below hb14)
   have T3_w14 := Lib.hid (T3)
   have z0_w14 : w.heap.size < w14.heap.size := Nat.lt_of_lt_of_le z0_w13 hb14.size
   have z1_w14 : w10.heap.size < w14.heap.size := Nat.lt_of_lt_of_le z1_w13 hb14.size
   have z2_w14 : w12.heap.size < w14.heap.size := Nat.lt_of_lt_of_le z2_w13 hb14.size
   have B_w14 := bt B_w13 hb14
   clear T0_w13 T_w13 T1_w13 B1_w13 T2_w13 B2_w13 z0_w13 z1_w13 z2_w13 B_w13 hb14
   clear T3
   have o_T0_0 := T0_w14.out.c (i := 0) rfl
   have o_T0_1 := T0_w14.out.c (i := 1) rfl
   have o_T0_2 := T0_w14.out.c (i := 2) rfl
   go_wp2_with fail
   clear o_T0_0 o_T0_1 o_T0_2
   obtain ⟨w15, hw15⟩ : ∃ W, W = w14.alloc (.cells #[.slice A3 n3 c3, .int .i64 sz, .int .i64 gz] 24) := ⟨_, rfl⟩
   have bw15 : Below w14.heap.size w14 w15 := by rw [hw15]; exact (Below.refl _ _).alloc (Nat.le_refl _) _
   have Xw15 : Bx w15 w14.heap.size 24 #[.slice A3 n3 c3, .int .i64 sz, .int .i64 gz] := by rw [hw15]; exact Bx.new _ _ _ rfl
   rw [← hw15]
   clear hw15
   have T0_w15 := Lib.hid (T0_w14.out.below bw15)
   have T_w15 := Lib.hid (T_w14.out.below bw15)
   have T1_w15 := Lib.hid (T1_w14.out.below bw15)
   have B1_w15 := Lib.hid (B1_w14.out.below bw15)
   have T2_w15 := Lib.hid (T2_w14.out.below bw15)
   have B2_w15 := Lib.hid (B2_w14.out.below bw15)
   have T3_w15 := Lib.hid (T3_w14.out.below bw15)
   have B3_w15 := Lib.hid (Xw15)
   have z0_w15 : w.heap.size < w15.heap.size := Nat.lt_of_lt_of_le z0_w14 bw15.size
   have z1_w15 : w10.heap.size < w15.heap.size := Nat.lt_of_lt_of_le z1_w14 bw15.size
   have z2_w15 : w12.heap.size < w15.heap.size := Nat.lt_of_lt_of_le z2_w14 bw15.size
   have B_w15 := bt B_w14 bw15
   clear T0_w14 T_w14 T1_w14 B1_w14 T2_w14 B2_w14 T3_w14 z0_w14 z1_w14 z2_w14 B_w14 bw15
   have z3_w15 : w14.heap.size < w15.heap.size := Xw15.lt
   clear Xw15
   go_at_call 26
   (with_reducible refine (cU.out _ _ _ _ T_w15.out).mono ?_)
   rintro e w16 ⟨A4, n4, c4, rfl, T4, hb16⟩
   have T0_w16 := Lib.hid (T0_w15.out.below hb16)
   have T_w16 := Lib.hid (T_w15.out.below hb16)
   have T1_w16 := Lib.hid (T1_w15.out.below hb16)
   have B1_w16 := Lib.hid (B1_w15.out.below hb16)
   have T2_w16 := Lib.hid (T2_w15.out.below hb16)
   have B2_w16 := Lib.hid (B2_w15.out.below hb16)
   have T3_w16 := Lib.hid (T3_w15.out.below hb16)
   have B3_w16 := Lib.hid (B3_w15.out.below hb16)
   have T4_w16 := Lib.hid (T4)
   have z0_w16 : w.heap.size < w16.heap.size := Nat.lt_of_lt_of_le z0_w15 hb16.size
   have z1_w16 : w10.heap.size < w16.heap.size := Nat.lt_of_lt_of_le z1_w15 hb16.size
   have z2_w16 : w12.heap.size < w16.heap.size := Nat.lt_of_lt_of_le z2_w15 hb16.size
   have z3_w16 : w14.heap.size < w16.heap.size := Nat.lt_of_lt_of_le z3_w15 hb16.size
   have B_w16 := bt B_w15 hb16
   clear T0_w15 T_w15 T1_w15 B1_w15 T2_w15 B2_w15 T3_w15 B3_w15 z0_w15 z1_w15 z2_w15 z3_w15 B_w15 hb16
   clear T4
   have o_T0_0 := T0_w16.out.c (i := 0) rfl
   have o_T0_1 := T0_w16.out.c (i := 1) rfl
   have o_T0_2 := T0_w16.out.c (i := 2) rfl
   go_wp2_with fail
   clear o_T0_0 o_T0_1 o_T0_2
   have e16 : w16.heap.size + 1 = (w16.alloc (.cells #[.slice A4 n4 c4, .int .i64 su, .int .i64 gu] 24)).heap.size := by simp
   rw [e16]
   clear e16
   obtain ⟨w17, hw17⟩ : ∃ W, W = w16.alloc (.cells #[.slice A4 n4 c4, .int .i64 su, .int .i64 gu] 24) := ⟨_, rfl⟩
   have bw17 : Below w16.heap.size w16 w17 := by rw [hw17]; exact (Below.refl _ _).alloc (Nat.le_refl _) _
   have Xw17 : Bx w17 w16.heap.size 24 #[.slice A4 n4 c4, .int .i64 su, .int .i64 gu] := by rw [hw17]; exact Bx.new _ _ _ rfl
   rw [← hw17]
   clear hw17
   have T0_w17 := Lib.hid (T0_w16.out.below bw17)
   have T_w17 := Lib.hid (T_w16.out.below bw17)
   have T1_w17 := Lib.hid (T1_w16.out.below bw17)
   have B1_w17 := Lib.hid (B1_w16.out.below bw17)
   have T2_w17 := Lib.hid (T2_w16.out.below bw17)
   have B2_w17 := Lib.hid (B2_w16.out.below bw17)
   have T3_w17 := Lib.hid (T3_w16.out.below bw17)
   have B3_w17 := Lib.hid (B3_w16.out.below bw17)
   have T4_w17 := Lib.hid (T4_w16.out.below bw17)
   have B4_w17 := Lib.hid (Xw17)
   have z0_w17 : w.heap.size < w17.heap.size := Nat.lt_of_lt_of_le z0_w16 bw17.size
   have z1_w17 : w10.heap.size < w17.heap.size := Nat.lt_of_lt_of_le z1_w16 bw17.size
   have z2_w17 : w12.heap.size < w17.heap.size := Nat.lt_of_lt_of_le z2_w16 bw17.size
   have z3_w17 : w14.heap.size < w17.heap.size := Nat.lt_of_lt_of_le z3_w16 bw17.size
   have B_w17 := bt B_w16 bw17
   clear T0_w16 T_w16 T1_w16 B1_w16 T2_w16 B2_w16 T3_w16 B3_w16 T4_w16 z0_w16 z1_w16 z2_w16 z3_w16 B_w16 bw17
   have z4_w17 : w16.heap.size < w17.heap.size := Xw17.lt
   clear Xw17
   obtain ⟨w18, hw18⟩ : ∃ W, W = w17.alloc (.cells #[.slice none 0 0, .int .i64 0, .int .i64 0] 24) := ⟨_, rfl⟩
   have bw18 : Below w17.heap.size w17 w18 := by rw [hw18]; exact (Below.refl _ _).alloc (Nat.le_refl _) _
   have Xw18 : Bx w18 w17.heap.size 24 #[.slice none 0 0, .int .i64 0, .int .i64 0] := by rw [hw18]; exact Bx.new _ _ _ rfl
   rw [← hw18]
   clear hw18
   have T0_w18 := Lib.hid (T0_w17.out.below bw18)
   have T_w18 := Lib.hid (T_w17.out.below bw18)
   have T1_w18 := Lib.hid (T1_w17.out.below bw18)
   have B1_w18 := Lib.hid (B1_w17.out.below bw18)
   have T2_w18 := Lib.hid (T2_w17.out.below bw18)
   have B2_w18 := Lib.hid (B2_w17.out.below bw18)
   have T3_w18 := Lib.hid (T3_w17.out.below bw18)
   have B3_w18 := Lib.hid (B3_w17.out.below bw18)
   have T4_w18 := Lib.hid (T4_w17.out.below bw18)
   have B4_w18 := Lib.hid (B4_w17.out.below bw18)
   have None_w18 := Lib.hid (Xw18)
   have z0_w18 : w.heap.size < w18.heap.size := Nat.lt_of_lt_of_le z0_w17 bw18.size
   have z1_w18 : w10.heap.size < w18.heap.size := Nat.lt_of_lt_of_le z1_w17 bw18.size
   have z2_w18 : w12.heap.size < w18.heap.size := Nat.lt_of_lt_of_le z2_w17 bw18.size
   have z3_w18 : w14.heap.size < w18.heap.size := Nat.lt_of_lt_of_le z3_w17 bw18.size
   have z4_w18 : w16.heap.size < w18.heap.size := Nat.lt_of_lt_of_le z4_w17 bw18.size
   have B_w18 := bt B_w17 bw18
   clear T0_w17 T_w17 T1_w17 B1_w17 T2_w17 B2_w17 T3_w17 B3_w17 T4_w17 B4_w17 z0_w17 z1_w17 z2_w17 z3_w17 z4_w17 B_w17 bw18
   have z5_w18 : w17.heap.size < w18.heap.size := Xw18.lt
   clear Xw18
   go_at_call 13
   (with_reducible refine (r_right s ag T_w18.out hsm.out _ hr.out).mono ?_)
   rintro e w19 ⟨rfl, hb19⟩
   have T0_w19 := Lib.hid (T0_w18.out.below hb19)
   have T_w19 := Lib.hid (T_w18.out.below hb19)
   have T1_w19 := Lib.hid (T1_w18.out.below hb19)
   have B1_w19 := Lib.hid (B1_w18.out.below hb19)
   have T2_w19 := Lib.hid (T2_w18.out.below hb19)
   have B2_w19 := Lib.hid (B2_w18.out.below hb19)
   have T3_w19 := Lib.hid (T3_w18.out.below hb19)
   have B3_w19 := Lib.hid (B3_w18.out.below hb19)
   have T4_w19 := Lib.hid (T4_w18.out.below hb19)
   have B4_w19 := Lib.hid (B4_w18.out.below hb19)
   have None_w19 := Lib.hid (None_w18.out.below hb19)
   have z0_w19 : w.heap.size < w19.heap.size := Nat.lt_of_lt_of_le z0_w18 hb19.size
   have z1_w19 : w10.heap.size < w19.heap.size := Nat.lt_of_lt_of_le z1_w18 hb19.size
   have z2_w19 : w12.heap.size < w19.heap.size := Nat.lt_of_lt_of_le z2_w18 hb19.size
   have z3_w19 : w14.heap.size < w19.heap.size := Nat.lt_of_lt_of_le z3_w18 hb19.size
   have z4_w19 : w16.heap.size < w19.heap.size := Nat.lt_of_lt_of_le z4_w18 hb19.size
   have z5_w19 : w17.heap.size < w19.heap.size := Nat.lt_of_lt_of_le z5_w18 hb19.size
   have B_w19 := bt B_w18 hb19
   clear T0_w18 T_w18 T1_w18 B1_w18 T2_w18 B2_w18 T3_w18 B3_w18 T4_w18 B4_w18 None_w18 z0_w18 z1_w18 z2_w18 z3_w18 z4_w18 z5_w18 B_w18 hb19
   clear cX cY cZ cU
   go_wp2_with fail
   go_at_call 19
   (with_reducible refine (hTime.out _).mono ?_)
   rintro e w' ⟨rfl, rfl⟩
   rw [htm.out]
   obtain ⟨hbz, hsz, rfl, rfl, rfl⟩ : bs.map (keepL (oldW ag now)) = bz ∧ Small bz ∧ s = sz ∧ ag = gz ∧ 0 = ez := by
     rcases hZ.out with ⟨h1, _⟩ | ⟨_, h⟩
     · rw [htm.out] at h1; cases h1
     · exact h
   replace hbz := Lib.hid hbz
   replace hsz := Lib.hid hsz
   clear hZ hTime htm
   go_wp2_with fail
   have o_B3_0 := B3_w19.out.c (i := 0) rfl
   have o_B3_1 := B3_w19.out.c (i := 1) rfl
   have o_B3_2 := B3_w19.out.c (i := 2) rfl
   have o_T0_0 := T0_w19.out.c (i := 0) rfl
   have o_T0_1 := T0_w19.out.c (i := 1) rfl
   have o_T0_2 := T0_w19.out.c (i := 2) rfl
   refine wp_region_opsG (by kernel_rfl) (fun ix => match ix with | 0 => 99 | 1 => 100 | 2 => 101 | 3 => 102 | 4 => 103 | 5 => 104 | 6 => 105 | 7 => 106 | 8 => 107 | 9 => 108 | _ => 0) [(2, false)] (by kernel_rfl) (by kernel_rfl) (fun i v W => match i with | 0 => v = .int .i64 0 | 1 => v = .bool false | 2 => v = .bool false | 3 => v = tbv (.slice A3 n3 c3) s ag | 4 => v = tbv (.slice A n c) s ag | 5 => v = .int .i64 now | 6 => ∃ A n c, v = tbv (.slice A n c) s ag ∧ TabS W A n c bz | 7 => v = .bool true | 8 => v = .bool false | 9 => v = .bool false | _ => True) (fun i v W W' h hb => by
       match i with
       | 0 => exact h
       | 1 => exact h
       | 2 => exact h
       | 3 => exact h
       | 4 => exact h
       | 5 => exact h
       | 7 => exact h
       | 8 => exact h
       | 9 => exact h
       | 6 => (obtain ⟨A, n, c, h1, h2⟩ := h; exact ⟨A, n, c, h1, h2.below hb⟩)
       | n + 10 => exact trivial) (fun g hg v W h => by
       simp only [List.mem_singleton] at hg
       subst hg
       exact h) ?_ ?_
   refine ⟨?_, ?_, ?_, ?_, ?_, ?_, ?_, ?_, ?_, ?_, trivial⟩
   · as_aux_lemma =>
       intro a9 W2 K hb hdep hk hK
       replace hK : ∀ v w', (v = .int .i64 0) → Below W2.heap.size W2 w' → K (a9.put (some 99) v) w' := hK
       have d14 : a9.tmps.getD 14 undef = .int .i64 0 := hk 14 (by kernel_rfl)
       clear hdep hk
       go_simp
       exact hK _ _ rfl (Below.refl _ _)
   · as_aux_lemma =>
       intro a9 W2 K hb hdep hk hK
       replace hK : ∀ v w', (v = .bool false) → Below W2.heap.size W2 w' → K (a9.put (some 100) v) w' := hK
       have d99 : a9.tmps.getD 99 undef = .int .i64 0 := hdep ⟨0, .data⟩ (by simp) rfl
       clear hdep hk
       go_simp
       exact hK _ _ rfl (Below.refl _ _)
   · as_aux_lemma =>
       intro a9 W2 K hb hdep hk hK
       replace hK : ∀ v w', (v = .bool false) → Below W2.heap.size W2 w' → K (a9.put (some 101) v) w' := hK
       have d100 : a9.tmps.getD 100 undef = .bool false := hdep ⟨1, .data⟩ (by simp) rfl
       clear hdep hk
       go_simp
       exact hK _ _ rfl (Below.refl _ _)
   · as_aux_lemma =>
       intro a9 W2 K hb hdep hk hK
       replace hK : ∀ v w', (v = tbv (.slice A3 n3 c3) s ag) → Below W2.heap.size W2 w' → K (a9.put (some 102) v) w' := hK
       have d13 : a9.tmps.getD 13 undef = .pointer (some ⟨w14.heap.size, 0, none⟩) := hk 13 (by kernel_rfl)
       have t0 := (hb.cell (p := ⟨w14.heap.size, 0, none⟩) z3_w19).trans o_B3_0
       have t1 := (hb.cell (p := ⟨w14.heap.size, 1, none⟩) z3_w19).trans o_B3_1
       have t2 := (hb.cell (p := ⟨w14.heap.size, 2, none⟩) z3_w19).trans o_B3_2
       clear hdep hk
       go_simp
       exact hK _ _ rfl (Below.refl _ _)
   · as_aux_lemma =>
       intro a9 W2 K hb hdep hk hK
       replace hK : ∀ v w', (v = tbv (.slice A n c) s ag) → Below W2.heap.size W2 w' → K (a9.put (some 103) v) w' := hK
       have d4 : a9.tmps.getD 4 undef = .pointer (some ⟨w.heap.size, 0, none⟩) := hk 4 (by kernel_rfl)
       have t0 := (hb.cell (p := ⟨w.heap.size, 0, none⟩) z0_w19).trans o_T0_0
       have t1 := (hb.cell (p := ⟨w.heap.size, 1, none⟩) z0_w19).trans o_T0_1
       have t2 := (hb.cell (p := ⟨w.heap.size, 2, none⟩) z0_w19).trans o_T0_2
       clear hdep hk
       go_simp
       exact hK _ _ rfl (Below.refl _ _)
   · as_aux_lemma =>
       intro a9 W2 K hb hdep hk hK
       replace hK : ∀ v w', (v = .int .i64 now) → Below W2.heap.size W2 w' → K (a9.put (some 104) v) w' := hK
       have d3 : a9.tmps.getD 3 undef = .int .i64 now := hk 3 (by kernel_rfl)
       clear hdep hk
       go_simp
       exact hK _ _ rfl (Below.refl _ _)
   · as_aux_lemma =>
       intro a9 W2 K hb hdep hk hK
       replace hK : ∀ v w', (∃ A n c, v = tbv (.slice A n c) s ag ∧ TabS w' A n c bz) → Below W2.heap.size W2 w' → K (a9.put (some 105) v) w' := hK
       have d103 : a9.tmps.getD 103 undef = tbv (.slice A n c) s ag := hdep ⟨4, .data⟩ (by simp) rfl
       have d104 : a9.tmps.getD 104 undef = .int .i64 now := hdep ⟨5, .data⟩ (by simp) rfl
       have hcall := r_sweep s ag now (T_w19.out.below hb) hsm.out hbl.out
       rw [hbz.out] at hcall
       replace hcall := Lib.hid hcall
       clear hdep hk
       have q103 : a9.tmps[103]?.getD undef = tbv (.slice A n c) s ag := by simpa [Array.getD_eq_getD_getElem?] using d103
       clear d103
       go_simp
       refine hcall.out.mono ?_
       rintro e w9 ⟨A8, n8, c8, rfl, r1, r2⟩
       exact hK _ _ ⟨A8, n8, c8, rfl, r1⟩ r2
   · as_aux_lemma =>
       intro a9 W2 K hb hdep hk hK
       replace hK : ∀ v w', (v = .bool true) → Below W2.heap.size W2 w' → K (a9.put (some 106) v) w' := hK
       have d102 : a9.tmps.getD 102 undef = tbv (.slice A3 n3 c3) s ag := hdep ⟨3, .data⟩ (by simp) rfl
       obtain ⟨A8, n8, c8, d105, r1⟩ : ∃ A n c, a9.tmps.getD 105 undef = tbv (.slice A n c) s ag ∧ TabS W2 A n c bz := hdep ⟨6, .data⟩ (by simp) rfl
       have hcall := Lib.hid (r_same s ag (T3_w19.out.below hb).tab r1 hsz.out)
       clear hdep hk
       have q102 : a9.tmps[102]?.getD undef = tbv (.slice A3 n3 c3) s ag := by simpa [Array.getD_eq_getD_getElem?] using d102
       clear d102
       have q105 : a9.tmps[105]?.getD undef = tbv (.slice A8 n8 c8) s ag := by simpa [Array.getD_eq_getD_getElem?] using d105
       clear d105
       go_simp
       refine hcall.out.mono ?_
       rintro e w9 ⟨rfl, r2⟩
       exact hK _ _ rfl r2
   · as_aux_lemma =>
       intro a9 W2 K hb hdep hk hK
       replace hK : ∀ v w', (v = .bool false) → Below W2.heap.size W2 w' → K (a9.put (some 107) v) w' := hK
       have d106 : a9.tmps.getD 106 undef = .bool true := hdep ⟨7, .data⟩ (by simp) rfl
       clear hdep hk
       go_simp
       exact hK _ _ rfl (Below.refl _ _)
   · as_aux_lemma =>
       intro a9 W2 K hb hdep hk hK
       replace hK : ∀ v w', (v = .bool false) → Below W2.heap.size W2 w' → K (a9.put (some 108) v) w' := hK
       have d101 : a9.tmps.getD 101 undef = .bool false := hdep ⟨2, .data⟩ (by simp) rfl
       have d107 : a9.tmps.getD 107 undef = .bool false := hdep ⟨8, .data⟩ (by simp) rfl
       clear hdep hk
       go_simp
       exact hK _ _ rfl (Below.refl _ _)
   intro af w20 hqw20 hsp hk hn hdf
   have hx9 : af.tmps.getD 108 undef = .bool false := hsp 9 (by decide)
   clear hsp
   have s1 : af.tmps.getD 1 undef = .int .i64 a := hk 1 (by kernel_rfl)
   have s2 : af.tmps.getD 2 undef = .int .i64 port := hk 2 (by kernel_rfl)
   have s3 : af.tmps.getD 3 undef = .int .i64 now := hk 3 (by kernel_rfl)
   have s4 : af.tmps.getD 4 undef = .pointer (some ⟨w.heap.size, 0, none⟩) := hk 4 (by kernel_rfl)
   have s8 : af.tmps.getD 8 undef = .bool false := hk 8 (by kernel_rfl)
   have s9 : af.tmps.getD 9 undef = .pointer (some ⟨w10.heap.size, 0, none⟩) := hk 9 (by kernel_rfl)
   have s10 : af.tmps.getD 10 undef = .int .i64 ex := hk 10 (by kernel_rfl)
   have s11 : af.tmps.getD 11 undef = .pointer (some ⟨w12.heap.size, 0, none⟩) := hk 11 (by kernel_rfl)
   have s12 : af.tmps.getD 12 undef = .int .i64 ey := hk 12 (by kernel_rfl)
   have s13 : af.tmps.getD 13 undef = .pointer (some ⟨w14.heap.size, 0, none⟩) := hk 13 (by kernel_rfl)
   have s14 : af.tmps.getD 14 undef = .int .i64 0 := hk 14 (by kernel_rfl)
   have s15 : af.tmps.getD 15 undef = .pointer (some ⟨w16.heap.size, 0, none⟩) := hk 15 (by kernel_rfl)
   have s16 : af.tmps.getD 16 undef = .int .i64 eu := hk 16 (by kernel_rfl)
   have s17 : af.tmps.getD 17 undef = .pointer (some ⟨w17.heap.size, 0, none⟩) := hk 17 (by kernel_rfl)
   have s108 : af.tmps.getD 108 undef = .bool false := hx9
   clear hk hx9
   obtain ⟨tm, df⟩ := af
   have e := arr_out tm 220 hn
   replace e : tm = #[tm.getD 0 undef, tm.getD 1 undef, tm.getD 2 undef, tm.getD 3 undef, tm.getD 4 undef, tm.getD 5 undef, tm.getD 6 undef, tm.getD 7 undef, tm.getD 8 undef, tm.getD 9 undef, tm.getD 10 undef, tm.getD 11 undef, tm.getD 12 undef, tm.getD 13 undef, tm.getD 14 undef, tm.getD 15 undef, tm.getD 16 undef, tm.getD 17 undef, tm.getD 18 undef, tm.getD 19 undef, tm.getD 20 undef, tm.getD 21 undef, tm.getD 22 undef, tm.getD 23 undef, tm.getD 24 undef, tm.getD 25 undef, tm.getD 26 undef, tm.getD 27 undef, tm.getD 28 undef, tm.getD 29 undef, tm.getD 30 undef, tm.getD 31 undef, tm.getD 32 undef, tm.getD 33 undef, tm.getD 34 undef, tm.getD 35 undef, tm.getD 36 undef, tm.getD 37 undef, tm.getD 38 undef, tm.getD 39 undef, tm.getD 40 undef, tm.getD 41 undef, tm.getD 42 undef, tm.getD 43 undef, tm.getD 44 undef, tm.getD 45 undef, tm.getD 46 undef, tm.getD 47 undef, tm.getD 48 undef, tm.getD 49 undef, tm.getD 50 undef, tm.getD 51 undef, tm.getD 52 undef, tm.getD 53 undef, tm.getD 54 undef, tm.getD 55 undef, tm.getD 56 undef, tm.getD 57 undef, tm.getD 58 undef, tm.getD 59 undef, tm.getD 60 undef, tm.getD 61 undef, tm.getD 62 undef, tm.getD 63 undef, tm.getD 64 undef, tm.getD 65 undef, tm.getD 66 undef, tm.getD 67 undef, tm.getD 68 undef, tm.getD 69 undef, tm.getD 70 undef, tm.getD 71 undef, tm.getD 72 undef, tm.getD 73 undef, tm.getD 74 undef, tm.getD 75 undef, tm.getD 76 undef, tm.getD 77 undef, tm.getD 78 undef, tm.getD 79 undef, tm.getD 80 undef, tm.getD 81 undef, tm.getD 82 undef, tm.getD 83 undef, tm.getD 84 undef, tm.getD 85 undef, tm.getD 86 undef, tm.getD 87 undef, tm.getD 88 undef, tm.getD 89 undef, tm.getD 90 undef, tm.getD 91 undef, tm.getD 92 undef, tm.getD 93 undef, tm.getD 94 undef, tm.getD 95 undef, tm.getD 96 undef, tm.getD 97 undef, tm.getD 98 undef, tm.getD 99 undef, tm.getD 100 undef, tm.getD 101 undef, tm.getD 102 undef, tm.getD 103 undef, tm.getD 104 undef, tm.getD 105 undef, tm.getD 106 undef, tm.getD 107 undef, tm.getD 108 undef, tm.getD 109 undef, tm.getD 110 undef, tm.getD 111 undef, tm.getD 112 undef, tm.getD 113 undef, tm.getD 114 undef, tm.getD 115 undef, tm.getD 116 undef, tm.getD 117 undef, tm.getD 118 undef, tm.getD 119 undef, tm.getD 120 undef, tm.getD 121 undef, tm.getD 122 undef, tm.getD 123 undef, tm.getD 124 undef, tm.getD 125 undef, tm.getD 126 undef, tm.getD 127 undef, tm.getD 128 undef, tm.getD 129 undef, tm.getD 130 undef, tm.getD 131 undef, tm.getD 132 undef, tm.getD 133 undef, tm.getD 134 undef, tm.getD 135 undef, tm.getD 136 undef, tm.getD 137 undef, tm.getD 138 undef, tm.getD 139 undef, tm.getD 140 undef, tm.getD 141 undef, tm.getD 142 undef, tm.getD 143 undef, tm.getD 144 undef, tm.getD 145 undef, tm.getD 146 undef, tm.getD 147 undef, tm.getD 148 undef, tm.getD 149 undef, tm.getD 150 undef, tm.getD 151 undef, tm.getD 152 undef, tm.getD 153 undef, tm.getD 154 undef, tm.getD 155 undef, tm.getD 156 undef, tm.getD 157 undef, tm.getD 158 undef, tm.getD 159 undef, tm.getD 160 undef, tm.getD 161 undef, tm.getD 162 undef, tm.getD 163 undef, tm.getD 164 undef, tm.getD 165 undef, tm.getD 166 undef, tm.getD 167 undef, tm.getD 168 undef, tm.getD 169 undef, tm.getD 170 undef, tm.getD 171 undef, tm.getD 172 undef, tm.getD 173 undef, tm.getD 174 undef, tm.getD 175 undef, tm.getD 176 undef, tm.getD 177 undef, tm.getD 178 undef, tm.getD 179 undef, tm.getD 180 undef, tm.getD 181 undef, tm.getD 182 undef, tm.getD 183 undef, tm.getD 184 undef, tm.getD 185 undef, tm.getD 186 undef, tm.getD 187 undef, tm.getD 188 undef, tm.getD 189 undef, tm.getD 190 undef, tm.getD 191 undef, tm.getD 192 undef, tm.getD 193 undef, tm.getD 194 undef, tm.getD 195 undef, tm.getD 196 undef, tm.getD 197 undef, tm.getD 198 undef, tm.getD 199 undef, tm.getD 200 undef, tm.getD 201 undef, tm.getD 202 undef, tm.getD 203 undef, tm.getD 204 undef, tm.getD 205 undef, tm.getD 206 undef, tm.getD 207 undef, tm.getD 208 undef, tm.getD 209 undef, tm.getD 210 undef, tm.getD 211 undef, tm.getD 212 undef, tm.getD 213 undef, tm.getD 214 undef, tm.getD 215 undef, tm.getD 216 undef, tm.getD 217 undef, tm.getD 218 undef, tm.getD 219 undef] := e
   simp only at s1 s2 s3 s4 s8 s9 s10 s11 s12 s13 s14 s15 s16 s17 s108 hdf
   rw [s1, s2, s3, s4, s8, s9, s10, s11, s12, s13, s14, s15, s16, s17, s108] at e
   subst hdf
   clear s1 s2 s3 s4 s8 s9 s10 s11 s12 s13 s14 s15 s16 s17 s108 hn
   generalize tm.getD 0 undef = u0 at e
   generalize tm.getD 5 undef = u5 at e
   generalize tm.getD 6 undef = u6 at e
   generalize tm.getD 7 undef = u7 at e
   generalize tm.getD 18 undef = u18 at e
   generalize tm.getD 19 undef = u19 at e
   generalize tm.getD 20 undef = u20 at e
   generalize tm.getD 21 undef = u21 at e
   generalize tm.getD 22 undef = u22 at e
   generalize tm.getD 23 undef = u23 at e
   generalize tm.getD 24 undef = u24 at e
   generalize tm.getD 25 undef = u25 at e
   generalize tm.getD 26 undef = u26 at e
   generalize tm.getD 27 undef = u27 at e
   generalize tm.getD 28 undef = u28 at e
   generalize tm.getD 29 undef = u29 at e
   generalize tm.getD 30 undef = u30 at e
   generalize tm.getD 31 undef = u31 at e
   generalize tm.getD 32 undef = u32 at e
   generalize tm.getD 33 undef = u33 at e
   generalize tm.getD 34 undef = u34 at e
   generalize tm.getD 35 undef = u35 at e
   generalize tm.getD 36 undef = u36 at e
   generalize tm.getD 37 undef = u37 at e
   generalize tm.getD 38 undef = u38 at e
   generalize tm.getD 39 undef = u39 at e
   generalize tm.getD 40 undef = u40 at e
   generalize tm.getD 41 undef = u41 at e
   generalize tm.getD 42 undef = u42 at e
   generalize tm.getD 43 undef = u43 at e
   generalize tm.getD 44 undef = u44 at e
   generalize tm.getD 45 undef = u45 at e
   generalize tm.getD 46 undef = u46 at e
   generalize tm.getD 47 undef = u47 at e
   generalize tm.getD 48 undef = u48 at e
   generalize tm.getD 49 undef = u49 at e
   generalize tm.getD 50 undef = u50 at e
   generalize tm.getD 51 undef = u51 at e
   generalize tm.getD 52 undef = u52 at e
   generalize tm.getD 53 undef = u53 at e
   generalize tm.getD 54 undef = u54 at e
   generalize tm.getD 55 undef = u55 at e
   generalize tm.getD 56 undef = u56 at e
   generalize tm.getD 57 undef = u57 at e
   generalize tm.getD 58 undef = u58 at e
   generalize tm.getD 59 undef = u59 at e
   generalize tm.getD 60 undef = u60 at e
   generalize tm.getD 61 undef = u61 at e
   generalize tm.getD 62 undef = u62 at e
   generalize tm.getD 63 undef = u63 at e
   generalize tm.getD 64 undef = u64 at e
   generalize tm.getD 65 undef = u65 at e
   generalize tm.getD 66 undef = u66 at e
   generalize tm.getD 67 undef = u67 at e
   generalize tm.getD 68 undef = u68 at e
   generalize tm.getD 69 undef = u69 at e
   generalize tm.getD 70 undef = u70 at e
   generalize tm.getD 71 undef = u71 at e
   generalize tm.getD 72 undef = u72 at e
   generalize tm.getD 73 undef = u73 at e
   generalize tm.getD 74 undef = u74 at e
   generalize tm.getD 75 undef = u75 at e
   generalize tm.getD 76 undef = u76 at e
   generalize tm.getD 77 undef = u77 at e
   generalize tm.getD 78 undef = u78 at e
   generalize tm.getD 79 undef = u79 at e
   generalize tm.getD 80 undef = u80 at e
   generalize tm.getD 81 undef = u81 at e
   generalize tm.getD 82 undef = u82 at e
   generalize tm.getD 83 undef = u83 at e
   generalize tm.getD 84 undef = u84 at e
   generalize tm.getD 85 undef = u85 at e
   generalize tm.getD 86 undef = u86 at e
   generalize tm.getD 87 undef = u87 at e
   generalize tm.getD 88 undef = u88 at e
   generalize tm.getD 89 undef = u89 at e
   generalize tm.getD 90 undef = u90 at e
   generalize tm.getD 91 undef = u91 at e
   generalize tm.getD 92 undef = u92 at e
   generalize tm.getD 93 undef = u93 at e
   generalize tm.getD 94 undef = u94 at e
   generalize tm.getD 95 undef = u95 at e
   generalize tm.getD 96 undef = u96 at e
   generalize tm.getD 97 undef = u97 at e
   generalize tm.getD 98 undef = u98 at e
   generalize tm.getD 99 undef = u99 at e
   generalize tm.getD 100 undef = u100 at e
   generalize tm.getD 101 undef = u101 at e
   generalize tm.getD 102 undef = u102 at e
   generalize tm.getD 103 undef = u103 at e
   generalize tm.getD 104 undef = u104 at e
   generalize tm.getD 105 undef = u105 at e
   generalize tm.getD 106 undef = u106 at e
   generalize tm.getD 107 undef = u107 at e
   generalize tm.getD 109 undef = u109 at e
   generalize tm.getD 110 undef = u110 at e
   generalize tm.getD 111 undef = u111 at e
   generalize tm.getD 112 undef = u112 at e
   generalize tm.getD 113 undef = u113 at e
   generalize tm.getD 114 undef = u114 at e
   generalize tm.getD 115 undef = u115 at e
   generalize tm.getD 116 undef = u116 at e
   generalize tm.getD 117 undef = u117 at e
   generalize tm.getD 118 undef = u118 at e
   generalize tm.getD 119 undef = u119 at e
   generalize tm.getD 120 undef = u120 at e
   generalize tm.getD 121 undef = u121 at e
   generalize tm.getD 122 undef = u122 at e
   generalize tm.getD 123 undef = u123 at e
   generalize tm.getD 124 undef = u124 at e
   generalize tm.getD 125 undef = u125 at e
   generalize tm.getD 126 undef = u126 at e
   generalize tm.getD 127 undef = u127 at e
   generalize tm.getD 128 undef = u128 at e
   generalize tm.getD 129 undef = u129 at e
   generalize tm.getD 130 undef = u130 at e
   generalize tm.getD 131 undef = u131 at e
   generalize tm.getD 132 undef = u132 at e
   generalize tm.getD 133 undef = u133 at e
   generalize tm.getD 134 undef = u134 at e
   generalize tm.getD 135 undef = u135 at e
   generalize tm.getD 136 undef = u136 at e
   generalize tm.getD 137 undef = u137 at e
   generalize tm.getD 138 undef = u138 at e
   generalize tm.getD 139 undef = u139 at e
   generalize tm.getD 140 undef = u140 at e
   generalize tm.getD 141 undef = u141 at e
   generalize tm.getD 142 undef = u142 at e
   generalize tm.getD 143 undef = u143 at e
   generalize tm.getD 144 undef = u144 at e
   generalize tm.getD 145 undef = u145 at e
   generalize tm.getD 146 undef = u146 at e
   generalize tm.getD 147 undef = u147 at e
   generalize tm.getD 148 undef = u148 at e
   generalize tm.getD 149 undef = u149 at e
   generalize tm.getD 150 undef = u150 at e
   generalize tm.getD 151 undef = u151 at e
   generalize tm.getD 152 undef = u152 at e
   generalize tm.getD 153 undef = u153 at e
   generalize tm.getD 154 undef = u154 at e
   generalize tm.getD 155 undef = u155 at e
   generalize tm.getD 156 undef = u156 at e
   generalize tm.getD 157 undef = u157 at e
   generalize tm.getD 158 undef = u158 at e
   generalize tm.getD 159 undef = u159 at e
   generalize tm.getD 160 undef = u160 at e
   generalize tm.getD 161 undef = u161 at e
   generalize tm.getD 162 undef = u162 at e
   generalize tm.getD 163 undef = u163 at e
   generalize tm.getD 164 undef = u164 at e
   generalize tm.getD 165 undef = u165 at e
   generalize tm.getD 166 undef = u166 at e
   generalize tm.getD 167 undef = u167 at e
   generalize tm.getD 168 undef = u168 at e
   generalize tm.getD 169 undef = u169 at e
   generalize tm.getD 170 undef = u170 at e
   generalize tm.getD 171 undef = u171 at e
   generalize tm.getD 172 undef = u172 at e
   generalize tm.getD 173 undef = u173 at e
   generalize tm.getD 174 undef = u174 at e
   generalize tm.getD 175 undef = u175 at e
   generalize tm.getD 176 undef = u176 at e
   generalize tm.getD 177 undef = u177 at e
   generalize tm.getD 178 undef = u178 at e
   generalize tm.getD 179 undef = u179 at e
   generalize tm.getD 180 undef = u180 at e
   generalize tm.getD 181 undef = u181 at e
   generalize tm.getD 182 undef = u182 at e
   generalize tm.getD 183 undef = u183 at e
   generalize tm.getD 184 undef = u184 at e
   generalize tm.getD 185 undef = u185 at e
   generalize tm.getD 186 undef = u186 at e
   generalize tm.getD 187 undef = u187 at e
   generalize tm.getD 188 undef = u188 at e
   generalize tm.getD 189 undef = u189 at e
   generalize tm.getD 190 undef = u190 at e
   generalize tm.getD 191 undef = u191 at e
   generalize tm.getD 192 undef = u192 at e
   generalize tm.getD 193 undef = u193 at e
   generalize tm.getD 194 undef = u194 at e
   generalize tm.getD 195 undef = u195 at e
   generalize tm.getD 196 undef = u196 at e
   generalize tm.getD 197 undef = u197 at e
   generalize tm.getD 198 undef = u198 at e
   generalize tm.getD 199 undef = u199 at e
   generalize tm.getD 200 undef = u200 at e
   generalize tm.getD 201 undef = u201 at e
   generalize tm.getD 202 undef = u202 at e
   generalize tm.getD 203 undef = u203 at e
   generalize tm.getD 204 undef = u204 at e
   generalize tm.getD 205 undef = u205 at e
   generalize tm.getD 206 undef = u206 at e
   generalize tm.getD 207 undef = u207 at e
   generalize tm.getD 208 undef = u208 at e
   generalize tm.getD 209 undef = u209 at e
   generalize tm.getD 210 undef = u210 at e
   generalize tm.getD 211 undef = u211 at e
   generalize tm.getD 212 undef = u212 at e
   generalize tm.getD 213 undef = u213 at e
   generalize tm.getD 214 undef = u214 at e
   generalize tm.getD 215 undef = u215 at e
   generalize tm.getD 216 undef = u216 at e
   generalize tm.getD 217 undef = u217 at e
   generalize tm.getD 218 undef = u218 at e
   generalize tm.getD 219 undef = u219 at e
   subst e
   have T0_w20 := Lib.hid (T0_w19.out.below hqw20)
   have T_w20 := Lib.hid (T_w19.out.below hqw20)
   have T1_w20 := Lib.hid (T1_w19.out.below hqw20)
   have B1_w20 := Lib.hid (B1_w19.out.below hqw20)
   have T2_w20 := Lib.hid (T2_w19.out.below hqw20)
   have B2_w20 := Lib.hid (B2_w19.out.below hqw20)
   have T3_w20 := Lib.hid (T3_w19.out.below hqw20)
   have B3_w20 := Lib.hid (B3_w19.out.below hqw20)
   have T4_w20 := Lib.hid (T4_w19.out.below hqw20)
   have B4_w20 := Lib.hid (B4_w19.out.below hqw20)
   have None_w20 := Lib.hid (None_w19.out.below hqw20)
   have z0_w20 : w.heap.size < w20.heap.size := Nat.lt_of_lt_of_le z0_w19 hqw20.size
   have z1_w20 : w10.heap.size < w20.heap.size := Nat.lt_of_lt_of_le z1_w19 hqw20.size
   have z2_w20 : w12.heap.size < w20.heap.size := Nat.lt_of_lt_of_le z2_w19 hqw20.size
   have z3_w20 : w14.heap.size < w20.heap.size := Nat.lt_of_lt_of_le z3_w19 hqw20.size
   have z4_w20 : w16.heap.size < w20.heap.size := Nat.lt_of_lt_of_le z4_w19 hqw20.size
   have z5_w20 : w17.heap.size < w20.heap.size := Nat.lt_of_lt_of_le z5_w19 hqw20.size
   have B_w20 := bt B_w19 hqw20
   clear T0_w19 T_w19 T1_w19 B1_w19 T2_w19 B2_w19 T3_w19 B3_w19 T4_w19 B4_w19 None_w19 z0_w19 z1_w19 z2_w19 z3_w19 z4_w19 z5_w19 B_w19 hqw20
   simp only [Exit.then]
   clear o_B3_0 o_B3_1 o_B3_2 o_T0_0 o_T0_1 o_T0_2
   go_wp2_with fail
   go_at_call 21
   (with_reducible refine (hPort.out _).mono ?_)
   rintro e w' ⟨rfl, rfl⟩
   cases hpo : portB port with
   | true =>
    rw [hpo] at hPort
    obtain ⟨hbu, hsu, rfl, rfl, rfl⟩ : bs.map (keepL (flushR port)) = bu ∧ Small bu ∧ s = su ∧ ag = gu ∧ 0 = eu := by
      rcases hU.out with ⟨h1, _⟩ | ⟨_, h⟩
      · rw [hpo] at h1; cases h1
      · exact h
    replace hbu := Lib.hid hbu
    replace hsu := Lib.hid hsu
    replace hpo := Lib.hid hpo
    clear hU
    go_wp2_with fail
    have o_B4_0 := B4_w20.out.c (i := 0) rfl
    have o_B4_1 := B4_w20.out.c (i := 1) rfl
    have o_B4_2 := B4_w20.out.c (i := 2) rfl
    have o_T0_0 := T0_w20.out.c (i := 0) rfl
    have o_T0_1 := T0_w20.out.c (i := 1) rfl
    have o_T0_2 := T0_w20.out.c (i := 2) rfl
    refine wp_region_opsG (by kernel_rfl) (fun ix => match ix with | 0 => 124 | 1 => 125 | 2 => 126 | 3 => 127 | 4 => 128 | 5 => 129 | 6 => 130 | 7 => 131 | 8 => 132 | 9 => 133 | _ => 0) [(2, false)] (by kernel_rfl) (by kernel_rfl) (fun i v W => match i with | 0 => v = .int .i64 0 | 1 => v = .bool false | 2 => v = .bool false | 3 => v = tbv (.slice A4 n4 c4) s ag | 4 => v = tbv (.slice A n c) s ag | 5 => v = .int .i64 port | 6 => ∃ A n c, v = tbv (.slice A n c) s ag ∧ TabS W A n c bu | 7 => v = .bool true | 8 => v = .bool false | 9 => v = .bool false | _ => True) (fun i v W W' h hb => by
        match i with
        | 0 => exact h
        | 1 => exact h
        | 2 => exact h
        | 3 => exact h
        | 4 => exact h
        | 5 => exact h
        | 7 => exact h
        | 8 => exact h
        | 9 => exact h
        | 6 => (obtain ⟨A, n, c, h1, h2⟩ := h; exact ⟨A, n, c, h1, h2.below hb⟩)
        | n + 10 => exact trivial) (fun g hg v W h => by
        simp only [List.mem_singleton] at hg
        subst hg
        exact h) ?_ ?_
    refine ⟨?_, ?_, ?_, ?_, ?_, ?_, ?_, ?_, ?_, ?_, trivial⟩
    · as_aux_lemma =>
        intro a9 W2 K hb hdep hk hK
        replace hK : ∀ v w', (v = .int .i64 0) → Below W2.heap.size W2 w' → K (a9.put (some 124) v) w' := hK
        have d16 : a9.tmps.getD 16 undef = .int .i64 0 := hk 16 (by kernel_rfl)
        clear hdep hk
        go_simp
        exact hK _ _ rfl (Below.refl _ _)
    · as_aux_lemma =>
        intro a9 W2 K hb hdep hk hK
        replace hK : ∀ v w', (v = .bool false) → Below W2.heap.size W2 w' → K (a9.put (some 125) v) w' := hK
        have d124 : a9.tmps.getD 124 undef = .int .i64 0 := hdep ⟨0, .data⟩ (by simp) rfl
        clear hdep hk
        go_simp
        exact hK _ _ rfl (Below.refl _ _)
    · as_aux_lemma =>
        intro a9 W2 K hb hdep hk hK
        replace hK : ∀ v w', (v = .bool false) → Below W2.heap.size W2 w' → K (a9.put (some 126) v) w' := hK
        have d125 : a9.tmps.getD 125 undef = .bool false := hdep ⟨1, .data⟩ (by simp) rfl
        clear hdep hk
        go_simp
        exact hK _ _ rfl (Below.refl _ _)
    · as_aux_lemma =>
        intro a9 W2 K hb hdep hk hK
        replace hK : ∀ v w', (v = tbv (.slice A4 n4 c4) s ag) → Below W2.heap.size W2 w' → K (a9.put (some 127) v) w' := hK
        have d15 : a9.tmps.getD 15 undef = .pointer (some ⟨w16.heap.size, 0, none⟩) := hk 15 (by kernel_rfl)
        have t0 := (hb.cell (p := ⟨w16.heap.size, 0, none⟩) z4_w20).trans o_B4_0
        have t1 := (hb.cell (p := ⟨w16.heap.size, 1, none⟩) z4_w20).trans o_B4_1
        have t2 := (hb.cell (p := ⟨w16.heap.size, 2, none⟩) z4_w20).trans o_B4_2
        clear hdep hk
        go_simp
        exact hK _ _ rfl (Below.refl _ _)
    · as_aux_lemma =>
        intro a9 W2 K hb hdep hk hK
        replace hK : ∀ v w', (v = tbv (.slice A n c) s ag) → Below W2.heap.size W2 w' → K (a9.put (some 128) v) w' := hK
        have d4 : a9.tmps.getD 4 undef = .pointer (some ⟨w.heap.size, 0, none⟩) := hk 4 (by kernel_rfl)
        have t0 := (hb.cell (p := ⟨w.heap.size, 0, none⟩) z0_w20).trans o_T0_0
        have t1 := (hb.cell (p := ⟨w.heap.size, 1, none⟩) z0_w20).trans o_T0_1
        have t2 := (hb.cell (p := ⟨w.heap.size, 2, none⟩) z0_w20).trans o_T0_2
        clear hdep hk
        go_simp
        exact hK _ _ rfl (Below.refl _ _)
    · as_aux_lemma =>
        intro a9 W2 K hb hdep hk hK
        replace hK : ∀ v w', (v = .int .i64 port) → Below W2.heap.size W2 w' → K (a9.put (some 129) v) w' := hK
        have d2 : a9.tmps.getD 2 undef = .int .i64 port := hk 2 (by kernel_rfl)
        clear hdep hk
        go_simp
        exact hK _ _ rfl (Below.refl _ _)
    · as_aux_lemma =>
        intro a9 W2 K hb hdep hk hK
        replace hK : ∀ v w', (∃ A n c, v = tbv (.slice A n c) s ag ∧ TabS w' A n c bu) → Below W2.heap.size W2 w' → K (a9.put (some 130) v) w' := hK
        have d128 : a9.tmps.getD 128 undef = tbv (.slice A n c) s ag := hdep ⟨4, .data⟩ (by simp) rfl
        have d129 : a9.tmps.getD 129 undef = .int .i64 port := hdep ⟨5, .data⟩ (by simp) rfl
        have hcall := r_flush s ag port (T_w20.out.below hb) hsm.out hbl.out
        rw [hbu.out] at hcall
        replace hcall := Lib.hid hcall
        clear hdep hk
        have q128 : a9.tmps[128]?.getD undef = tbv (.slice A n c) s ag := by simpa [Array.getD_eq_getD_getElem?] using d128
        clear d128
        go_simp
        refine hcall.out.mono ?_
        rintro e w9 ⟨A8, n8, c8, rfl, r1, r2⟩
        exact hK _ _ ⟨A8, n8, c8, rfl, r1⟩ r2
    · as_aux_lemma =>
        intro a9 W2 K hb hdep hk hK
        replace hK : ∀ v w', (v = .bool true) → Below W2.heap.size W2 w' → K (a9.put (some 131) v) w' := hK
        have d127 : a9.tmps.getD 127 undef = tbv (.slice A4 n4 c4) s ag := hdep ⟨3, .data⟩ (by simp) rfl
        obtain ⟨A8, n8, c8, d130, r1⟩ : ∃ A n c, a9.tmps.getD 130 undef = tbv (.slice A n c) s ag ∧ TabS W2 A n c bu := hdep ⟨6, .data⟩ (by simp) rfl
        have hcall := Lib.hid (r_same s ag (T4_w20.out.below hb).tab r1 hsu.out)
        clear hdep hk
        have q127 : a9.tmps[127]?.getD undef = tbv (.slice A4 n4 c4) s ag := by simpa [Array.getD_eq_getD_getElem?] using d127
        clear d127
        have q130 : a9.tmps[130]?.getD undef = tbv (.slice A8 n8 c8) s ag := by simpa [Array.getD_eq_getD_getElem?] using d130
        clear d130
        go_simp
        refine hcall.out.mono ?_
        rintro e w9 ⟨rfl, r2⟩
        exact hK _ _ rfl r2
    · as_aux_lemma =>
        intro a9 W2 K hb hdep hk hK
        replace hK : ∀ v w', (v = .bool false) → Below W2.heap.size W2 w' → K (a9.put (some 132) v) w' := hK
        have d131 : a9.tmps.getD 131 undef = .bool true := hdep ⟨7, .data⟩ (by simp) rfl
        clear hdep hk
        go_simp
        exact hK _ _ rfl (Below.refl _ _)
    · as_aux_lemma =>
        intro a9 W2 K hb hdep hk hK
        replace hK : ∀ v w', (v = .bool false) → Below W2.heap.size W2 w' → K (a9.put (some 133) v) w' := hK
        have d126 : a9.tmps.getD 126 undef = .bool false := hdep ⟨2, .data⟩ (by simp) rfl
        have d132 : a9.tmps.getD 132 undef = .bool false := hdep ⟨8, .data⟩ (by simp) rfl
        clear hdep hk
        go_simp
        exact hK _ _ rfl (Below.refl _ _)
    intro af w21 hqw21 hsp hk hn hdf
    have hx9 : af.tmps.getD 133 undef = .bool false := hsp 9 (by decide)
    clear hsp
    have s1 : af.tmps.getD 1 undef = .int .i64 a := hk 1 (by kernel_rfl)
    have s2 : af.tmps.getD 2 undef = .int .i64 port := hk 2 (by kernel_rfl)
    have s3 : af.tmps.getD 3 undef = .int .i64 now := hk 3 (by kernel_rfl)
    have s4 : af.tmps.getD 4 undef = .pointer (some ⟨w.heap.size, 0, none⟩) := hk 4 (by kernel_rfl)
    have s8 : af.tmps.getD 8 undef = .bool false := hk 8 (by kernel_rfl)
    have s9 : af.tmps.getD 9 undef = .pointer (some ⟨w10.heap.size, 0, none⟩) := hk 9 (by kernel_rfl)
    have s10 : af.tmps.getD 10 undef = .int .i64 ex := hk 10 (by kernel_rfl)
    have s11 : af.tmps.getD 11 undef = .pointer (some ⟨w12.heap.size, 0, none⟩) := hk 11 (by kernel_rfl)
    have s12 : af.tmps.getD 12 undef = .int .i64 ey := hk 12 (by kernel_rfl)
    have s13 : af.tmps.getD 13 undef = .pointer (some ⟨w14.heap.size, 0, none⟩) := hk 13 (by kernel_rfl)
    have s14 : af.tmps.getD 14 undef = .int .i64 0 := hk 14 (by kernel_rfl)
    have s15 : af.tmps.getD 15 undef = .pointer (some ⟨w16.heap.size, 0, none⟩) := hk 15 (by kernel_rfl)
    have s16 : af.tmps.getD 16 undef = .int .i64 0 := hk 16 (by kernel_rfl)
    have s17 : af.tmps.getD 17 undef = .pointer (some ⟨w17.heap.size, 0, none⟩) := hk 17 (by kernel_rfl)
    have s133 : af.tmps.getD 133 undef = .bool false := hx9
    clear hk hx9
    obtain ⟨tm, df⟩ := af
    have e := arr_out tm 220 hn
    replace e : tm = #[tm.getD 0 undef, tm.getD 1 undef, tm.getD 2 undef, tm.getD 3 undef, tm.getD 4 undef, tm.getD 5 undef, tm.getD 6 undef, tm.getD 7 undef, tm.getD 8 undef, tm.getD 9 undef, tm.getD 10 undef, tm.getD 11 undef, tm.getD 12 undef, tm.getD 13 undef, tm.getD 14 undef, tm.getD 15 undef, tm.getD 16 undef, tm.getD 17 undef, tm.getD 18 undef, tm.getD 19 undef, tm.getD 20 undef, tm.getD 21 undef, tm.getD 22 undef, tm.getD 23 undef, tm.getD 24 undef, tm.getD 25 undef, tm.getD 26 undef, tm.getD 27 undef, tm.getD 28 undef, tm.getD 29 undef, tm.getD 30 undef, tm.getD 31 undef, tm.getD 32 undef, tm.getD 33 undef, tm.getD 34 undef, tm.getD 35 undef, tm.getD 36 undef, tm.getD 37 undef, tm.getD 38 undef, tm.getD 39 undef, tm.getD 40 undef, tm.getD 41 undef, tm.getD 42 undef, tm.getD 43 undef, tm.getD 44 undef, tm.getD 45 undef, tm.getD 46 undef, tm.getD 47 undef, tm.getD 48 undef, tm.getD 49 undef, tm.getD 50 undef, tm.getD 51 undef, tm.getD 52 undef, tm.getD 53 undef, tm.getD 54 undef, tm.getD 55 undef, tm.getD 56 undef, tm.getD 57 undef, tm.getD 58 undef, tm.getD 59 undef, tm.getD 60 undef, tm.getD 61 undef, tm.getD 62 undef, tm.getD 63 undef, tm.getD 64 undef, tm.getD 65 undef, tm.getD 66 undef, tm.getD 67 undef, tm.getD 68 undef, tm.getD 69 undef, tm.getD 70 undef, tm.getD 71 undef, tm.getD 72 undef, tm.getD 73 undef, tm.getD 74 undef, tm.getD 75 undef, tm.getD 76 undef, tm.getD 77 undef, tm.getD 78 undef, tm.getD 79 undef, tm.getD 80 undef, tm.getD 81 undef, tm.getD 82 undef, tm.getD 83 undef, tm.getD 84 undef, tm.getD 85 undef, tm.getD 86 undef, tm.getD 87 undef, tm.getD 88 undef, tm.getD 89 undef, tm.getD 90 undef, tm.getD 91 undef, tm.getD 92 undef, tm.getD 93 undef, tm.getD 94 undef, tm.getD 95 undef, tm.getD 96 undef, tm.getD 97 undef, tm.getD 98 undef, tm.getD 99 undef, tm.getD 100 undef, tm.getD 101 undef, tm.getD 102 undef, tm.getD 103 undef, tm.getD 104 undef, tm.getD 105 undef, tm.getD 106 undef, tm.getD 107 undef, tm.getD 108 undef, tm.getD 109 undef, tm.getD 110 undef, tm.getD 111 undef, tm.getD 112 undef, tm.getD 113 undef, tm.getD 114 undef, tm.getD 115 undef, tm.getD 116 undef, tm.getD 117 undef, tm.getD 118 undef, tm.getD 119 undef, tm.getD 120 undef, tm.getD 121 undef, tm.getD 122 undef, tm.getD 123 undef, tm.getD 124 undef, tm.getD 125 undef, tm.getD 126 undef, tm.getD 127 undef, tm.getD 128 undef, tm.getD 129 undef, tm.getD 130 undef, tm.getD 131 undef, tm.getD 132 undef, tm.getD 133 undef, tm.getD 134 undef, tm.getD 135 undef, tm.getD 136 undef, tm.getD 137 undef, tm.getD 138 undef, tm.getD 139 undef, tm.getD 140 undef, tm.getD 141 undef, tm.getD 142 undef, tm.getD 143 undef, tm.getD 144 undef, tm.getD 145 undef, tm.getD 146 undef, tm.getD 147 undef, tm.getD 148 undef, tm.getD 149 undef, tm.getD 150 undef, tm.getD 151 undef, tm.getD 152 undef, tm.getD 153 undef, tm.getD 154 undef, tm.getD 155 undef, tm.getD 156 undef, tm.getD 157 undef, tm.getD 158 undef, tm.getD 159 undef, tm.getD 160 undef, tm.getD 161 undef, tm.getD 162 undef, tm.getD 163 undef, tm.getD 164 undef, tm.getD 165 undef, tm.getD 166 undef, tm.getD 167 undef, tm.getD 168 undef, tm.getD 169 undef, tm.getD 170 undef, tm.getD 171 undef, tm.getD 172 undef, tm.getD 173 undef, tm.getD 174 undef, tm.getD 175 undef, tm.getD 176 undef, tm.getD 177 undef, tm.getD 178 undef, tm.getD 179 undef, tm.getD 180 undef, tm.getD 181 undef, tm.getD 182 undef, tm.getD 183 undef, tm.getD 184 undef, tm.getD 185 undef, tm.getD 186 undef, tm.getD 187 undef, tm.getD 188 undef, tm.getD 189 undef, tm.getD 190 undef, tm.getD 191 undef, tm.getD 192 undef, tm.getD 193 undef, tm.getD 194 undef, tm.getD 195 undef, tm.getD 196 undef, tm.getD 197 undef, tm.getD 198 undef, tm.getD 199 undef, tm.getD 200 undef, tm.getD 201 undef, tm.getD 202 undef, tm.getD 203 undef, tm.getD 204 undef, tm.getD 205 undef, tm.getD 206 undef, tm.getD 207 undef, tm.getD 208 undef, tm.getD 209 undef, tm.getD 210 undef, tm.getD 211 undef, tm.getD 212 undef, tm.getD 213 undef, tm.getD 214 undef, tm.getD 215 undef, tm.getD 216 undef, tm.getD 217 undef, tm.getD 218 undef, tm.getD 219 undef] := e
    simp only at s1 s2 s3 s4 s8 s9 s10 s11 s12 s13 s14 s15 s16 s17 s133 hdf
    rw [s1, s2, s3, s4, s8, s9, s10, s11, s12, s13, s14, s15, s16, s17, s133] at e
    subst hdf
    clear s1 s2 s3 s4 s8 s9 s10 s11 s12 s13 s14 s15 s16 s17 s133 hn
    generalize tm.getD 0 undef = u0 at e
    generalize tm.getD 5 undef = u5 at e
    generalize tm.getD 6 undef = u6 at e
    generalize tm.getD 7 undef = u7 at e
    generalize tm.getD 18 undef = u18 at e
    generalize tm.getD 19 undef = u19 at e
    generalize tm.getD 20 undef = u20 at e
    generalize tm.getD 21 undef = u21 at e
    generalize tm.getD 22 undef = u22 at e
    generalize tm.getD 23 undef = u23 at e
    generalize tm.getD 24 undef = u24 at e
    generalize tm.getD 25 undef = u25 at e
    generalize tm.getD 26 undef = u26 at e
    generalize tm.getD 27 undef = u27 at e
    generalize tm.getD 28 undef = u28 at e
    generalize tm.getD 29 undef = u29 at e
    generalize tm.getD 30 undef = u30 at e
    generalize tm.getD 31 undef = u31 at e
    generalize tm.getD 32 undef = u32 at e
    generalize tm.getD 33 undef = u33 at e
    generalize tm.getD 34 undef = u34 at e
    generalize tm.getD 35 undef = u35 at e
    generalize tm.getD 36 undef = u36 at e
    generalize tm.getD 37 undef = u37 at e
    generalize tm.getD 38 undef = u38 at e
    generalize tm.getD 39 undef = u39 at e
    generalize tm.getD 40 undef = u40 at e
    generalize tm.getD 41 undef = u41 at e
    generalize tm.getD 42 undef = u42 at e
    generalize tm.getD 43 undef = u43 at e
    generalize tm.getD 44 undef = u44 at e
    generalize tm.getD 45 undef = u45 at e
    generalize tm.getD 46 undef = u46 at e
    generalize tm.getD 47 undef = u47 at e
    generalize tm.getD 48 undef = u48 at e
    generalize tm.getD 49 undef = u49 at e
    generalize tm.getD 50 undef = u50 at e
    generalize tm.getD 51 undef = u51 at e
    generalize tm.getD 52 undef = u52 at e
    generalize tm.getD 53 undef = u53 at e
    generalize tm.getD 54 undef = u54 at e
    generalize tm.getD 55 undef = u55 at e
    generalize tm.getD 56 undef = u56 at e
    generalize tm.getD 57 undef = u57 at e
    generalize tm.getD 58 undef = u58 at e
    generalize tm.getD 59 undef = u59 at e
    generalize tm.getD 60 undef = u60 at e
    generalize tm.getD 61 undef = u61 at e
    generalize tm.getD 62 undef = u62 at e
    generalize tm.getD 63 undef = u63 at e
    generalize tm.getD 64 undef = u64 at e
    generalize tm.getD 65 undef = u65 at e
    generalize tm.getD 66 undef = u66 at e
    generalize tm.getD 67 undef = u67 at e
    generalize tm.getD 68 undef = u68 at e
    generalize tm.getD 69 undef = u69 at e
    generalize tm.getD 70 undef = u70 at e
    generalize tm.getD 71 undef = u71 at e
    generalize tm.getD 72 undef = u72 at e
    generalize tm.getD 73 undef = u73 at e
    generalize tm.getD 74 undef = u74 at e
    generalize tm.getD 75 undef = u75 at e
    generalize tm.getD 76 undef = u76 at e
    generalize tm.getD 77 undef = u77 at e
    generalize tm.getD 78 undef = u78 at e
    generalize tm.getD 79 undef = u79 at e
    generalize tm.getD 80 undef = u80 at e
    generalize tm.getD 81 undef = u81 at e
    generalize tm.getD 82 undef = u82 at e
    generalize tm.getD 83 undef = u83 at e
    generalize tm.getD 84 undef = u84 at e
    generalize tm.getD 85 undef = u85 at e
    generalize tm.getD 86 undef = u86 at e
    generalize tm.getD 87 undef = u87 at e
    generalize tm.getD 88 undef = u88 at e
    generalize tm.getD 89 undef = u89 at e
    generalize tm.getD 90 undef = u90 at e
    generalize tm.getD 91 undef = u91 at e
    generalize tm.getD 92 undef = u92 at e
    generalize tm.getD 93 undef = u93 at e
    generalize tm.getD 94 undef = u94 at e
    generalize tm.getD 95 undef = u95 at e
    generalize tm.getD 96 undef = u96 at e
    generalize tm.getD 97 undef = u97 at e
    generalize tm.getD 98 undef = u98 at e
    generalize tm.getD 99 undef = u99 at e
    generalize tm.getD 100 undef = u100 at e
    generalize tm.getD 101 undef = u101 at e
    generalize tm.getD 102 undef = u102 at e
    generalize tm.getD 103 undef = u103 at e
    generalize tm.getD 104 undef = u104 at e
    generalize tm.getD 105 undef = u105 at e
    generalize tm.getD 106 undef = u106 at e
    generalize tm.getD 107 undef = u107 at e
    generalize tm.getD 108 undef = u108 at e
    generalize tm.getD 109 undef = u109 at e
    generalize tm.getD 110 undef = u110 at e
    generalize tm.getD 111 undef = u111 at e
    generalize tm.getD 112 undef = u112 at e
    generalize tm.getD 113 undef = u113 at e
    generalize tm.getD 114 undef = u114 at e
    generalize tm.getD 115 undef = u115 at e
    generalize tm.getD 116 undef = u116 at e
    generalize tm.getD 117 undef = u117 at e
    generalize tm.getD 118 undef = u118 at e
    generalize tm.getD 119 undef = u119 at e
    generalize tm.getD 120 undef = u120 at e
    generalize tm.getD 121 undef = u121 at e
    generalize tm.getD 122 undef = u122 at e
    generalize tm.getD 123 undef = u123 at e
    generalize tm.getD 124 undef = u124 at e
    generalize tm.getD 125 undef = u125 at e
    generalize tm.getD 126 undef = u126 at e
    generalize tm.getD 127 undef = u127 at e
    generalize tm.getD 128 undef = u128 at e
    generalize tm.getD 129 undef = u129 at e
    generalize tm.getD 130 undef = u130 at e
    generalize tm.getD 131 undef = u131 at e
    generalize tm.getD 132 undef = u132 at e
    generalize tm.getD 134 undef = u134 at e
    generalize tm.getD 135 undef = u135 at e
    generalize tm.getD 136 undef = u136 at e
    generalize tm.getD 137 undef = u137 at e
    generalize tm.getD 138 undef = u138 at e
    generalize tm.getD 139 undef = u139 at e
    generalize tm.getD 140 undef = u140 at e
    generalize tm.getD 141 undef = u141 at e
    generalize tm.getD 142 undef = u142 at e
    generalize tm.getD 143 undef = u143 at e
    generalize tm.getD 144 undef = u144 at e
    generalize tm.getD 145 undef = u145 at e
    generalize tm.getD 146 undef = u146 at e
    generalize tm.getD 147 undef = u147 at e
    generalize tm.getD 148 undef = u148 at e
    generalize tm.getD 149 undef = u149 at e
    generalize tm.getD 150 undef = u150 at e
    generalize tm.getD 151 undef = u151 at e
    generalize tm.getD 152 undef = u152 at e
    generalize tm.getD 153 undef = u153 at e
    generalize tm.getD 154 undef = u154 at e
    generalize tm.getD 155 undef = u155 at e
    generalize tm.getD 156 undef = u156 at e
    generalize tm.getD 157 undef = u157 at e
    generalize tm.getD 158 undef = u158 at e
    generalize tm.getD 159 undef = u159 at e
    generalize tm.getD 160 undef = u160 at e
    generalize tm.getD 161 undef = u161 at e
    generalize tm.getD 162 undef = u162 at e
    generalize tm.getD 163 undef = u163 at e
    generalize tm.getD 164 undef = u164 at e
    generalize tm.getD 165 undef = u165 at e
    generalize tm.getD 166 undef = u166 at e
    generalize tm.getD 167 undef = u167 at e
    generalize tm.getD 168 undef = u168 at e
    generalize tm.getD 169 undef = u169 at e
    generalize tm.getD 170 undef = u170 at e
    generalize tm.getD 171 undef = u171 at e
    generalize tm.getD 172 undef = u172 at e
    generalize tm.getD 173 undef = u173 at e
    generalize tm.getD 174 undef = u174 at e
    generalize tm.getD 175 undef = u175 at e
    generalize tm.getD 176 undef = u176 at e
    generalize tm.getD 177 undef = u177 at e
    generalize tm.getD 178 undef = u178 at e
    generalize tm.getD 179 undef = u179 at e
    generalize tm.getD 180 undef = u180 at e
    generalize tm.getD 181 undef = u181 at e
    generalize tm.getD 182 undef = u182 at e
    generalize tm.getD 183 undef = u183 at e
    generalize tm.getD 184 undef = u184 at e
    generalize tm.getD 185 undef = u185 at e
    generalize tm.getD 186 undef = u186 at e
    generalize tm.getD 187 undef = u187 at e
    generalize tm.getD 188 undef = u188 at e
    generalize tm.getD 189 undef = u189 at e
    generalize tm.getD 190 undef = u190 at e
    generalize tm.getD 191 undef = u191 at e
    generalize tm.getD 192 undef = u192 at e
    generalize tm.getD 193 undef = u193 at e
    generalize tm.getD 194 undef = u194 at e
    generalize tm.getD 195 undef = u195 at e
    generalize tm.getD 196 undef = u196 at e
    generalize tm.getD 197 undef = u197 at e
    generalize tm.getD 198 undef = u198 at e
    generalize tm.getD 199 undef = u199 at e
    generalize tm.getD 200 undef = u200 at e
    generalize tm.getD 201 undef = u201 at e
    generalize tm.getD 202 undef = u202 at e
    generalize tm.getD 203 undef = u203 at e
    generalize tm.getD 204 undef = u204 at e
    generalize tm.getD 205 undef = u205 at e
    generalize tm.getD 206 undef = u206 at e
    generalize tm.getD 207 undef = u207 at e
    generalize tm.getD 208 undef = u208 at e
    generalize tm.getD 209 undef = u209 at e
    generalize tm.getD 210 undef = u210 at e
    generalize tm.getD 211 undef = u211 at e
    generalize tm.getD 212 undef = u212 at e
    generalize tm.getD 213 undef = u213 at e
    generalize tm.getD 214 undef = u214 at e
    generalize tm.getD 215 undef = u215 at e
    generalize tm.getD 216 undef = u216 at e
    generalize tm.getD 217 undef = u217 at e
    generalize tm.getD 218 undef = u218 at e
    generalize tm.getD 219 undef = u219 at e
    subst e
    have T0_w21 := Lib.hid (T0_w20.out.below hqw21)
    have T_w21 := Lib.hid (T_w20.out.below hqw21)
    have T1_w21 := Lib.hid (T1_w20.out.below hqw21)
    have B1_w21 := Lib.hid (B1_w20.out.below hqw21)
    have T2_w21 := Lib.hid (T2_w20.out.below hqw21)
    have B2_w21 := Lib.hid (B2_w20.out.below hqw21)
    have T3_w21 := Lib.hid (T3_w20.out.below hqw21)
    have B3_w21 := Lib.hid (B3_w20.out.below hqw21)
    have T4_w21 := Lib.hid (T4_w20.out.below hqw21)
    have B4_w21 := Lib.hid (B4_w20.out.below hqw21)
    have None_w21 := Lib.hid (None_w20.out.below hqw21)
    have z0_w21 : w.heap.size < w21.heap.size := Nat.lt_of_lt_of_le z0_w20 hqw21.size
    have z1_w21 : w10.heap.size < w21.heap.size := Nat.lt_of_lt_of_le z1_w20 hqw21.size
    have z2_w21 : w12.heap.size < w21.heap.size := Nat.lt_of_lt_of_le z2_w20 hqw21.size
    have z3_w21 : w14.heap.size < w21.heap.size := Nat.lt_of_lt_of_le z3_w20 hqw21.size
    have z4_w21 : w16.heap.size < w21.heap.size := Nat.lt_of_lt_of_le z4_w20 hqw21.size
    have z5_w21 : w17.heap.size < w21.heap.size := Nat.lt_of_lt_of_le z5_w20 hqw21.size
    have B_w21 := bt B_w20 hqw21
    clear T0_w20 T_w20 T1_w20 B1_w20 T2_w20 B2_w20 T3_w20 B3_w20 T4_w20 B4_w20 None_w20 z0_w20 z1_w20 z2_w20 z3_w20 z4_w20 z5_w20 B_w20 hqw21
    simp only [Exit.then]
    clear o_B4_0 o_B4_1 o_B4_2 o_T0_0 o_T0_1 o_T0_2
    go_wp2_with fail
    go_at_call 18
    (with_reducible refine (hMac.out _).mono ?_)
    rintro e w' ⟨rfl, rfl⟩
    cases hm : macB a with
    | false =>
     obtain ⟨rfl, rfl, rfl, rfl⟩ : [] = bx ∧ 0 = sx ∧ 0 = gx ∧ 1 = ex := by
       rcases hX.out with ⟨_, h⟩ | ⟨h1, _⟩ | ⟨h1, _⟩
       · exact h
       · rw [hm] at h1; cases h1
       · rw [hm] at h1; cases h1
     obtain ⟨rfl, rfl, rfl, rfl⟩ : [] = by_ ∧ 0 = sy ∧ 0 = gy ∧ 1 = ey := by
       rcases hY.out with ⟨_, h⟩ | ⟨h1, _⟩ | ⟨h1, _⟩
       · exact h
       · rw [hm] at h1; cases h1
       · rw [hm] at h1; cases h1
     replace hm := Lib.hid hm
     clear hX hY
     go_wp2_with fail
     go_at_call 14
     (with_reducible refine (alive_any _).mono ?_)
     rintro e w22 ⟨rfl, hb22⟩
     have T0_w22 := Lib.hid (T0_w21.out.below hb22)
     have T_w22 := Lib.hid (T_w21.out.below hb22)
     have T1_w22 := Lib.hid (T1_w21.out.below hb22)
     have B1_w22 := Lib.hid (B1_w21.out.below hb22)
     have T2_w22 := Lib.hid (T2_w21.out.below hb22)
     have B2_w22 := Lib.hid (B2_w21.out.below hb22)
     have T3_w22 := Lib.hid (T3_w21.out.below hb22)
     have B3_w22 := Lib.hid (B3_w21.out.below hb22)
     have T4_w22 := Lib.hid (T4_w21.out.below hb22)
     have B4_w22 := Lib.hid (B4_w21.out.below hb22)
     have None_w22 := Lib.hid (None_w21.out.below hb22)
     have z0_w22 : w.heap.size < w22.heap.size := Nat.lt_of_lt_of_le z0_w21 hb22.size
     have z1_w22 : w10.heap.size < w22.heap.size := Nat.lt_of_lt_of_le z1_w21 hb22.size
     have z2_w22 : w12.heap.size < w22.heap.size := Nat.lt_of_lt_of_le z2_w21 hb22.size
     have z3_w22 : w14.heap.size < w22.heap.size := Nat.lt_of_lt_of_le z3_w21 hb22.size
     have z4_w22 : w16.heap.size < w22.heap.size := Nat.lt_of_lt_of_le z4_w21 hb22.size
     have z5_w22 : w17.heap.size < w22.heap.size := Nat.lt_of_lt_of_le z5_w21 hb22.size
     have B_w22 := bt B_w21 hb22
     clear T0_w21 T_w21 T1_w21 B1_w21 T2_w21 B2_w21 T3_w21 B3_w21 T4_w21 B4_w21 None_w21 z0_w21 z1_w21 z2_w21 z3_w21 z4_w21 z5_w21 B_w21 hb22
     have o_B1_0 := B1_w22.out.c (i := 0) rfl
     have o_B1_1 := B1_w22.out.c (i := 1) rfl
     have o_B1_2 := B1_w22.out.c (i := 2) rfl
     have o_None_0 := None_w22.out.c (i := 0) rfl
     have o_None_1 := None_w22.out.c (i := 1) rfl
     have o_None_2 := None_w22.out.c (i := 2) rfl
     go_wp2_with fail
     clear o_B1_0 o_B1_1 o_B1_2 o_None_0 o_None_1 o_None_2
     go_at_call 16
     (with_reducible refine (r_same 0 0 T1_w22.out.tab (TabS.empty _) small_nil').mono ?_)
     rintro e w23 ⟨rfl, hb23⟩
     have T0_w23 := Lib.hid (T0_w22.out.below hb23)
     have T_w23 := Lib.hid (T_w22.out.below hb23)
     have T1_w23 := Lib.hid (T1_w22.out.below hb23)
     have B1_w23 := Lib.hid (B1_w22.out.below hb23)
     have T2_w23 := Lib.hid (T2_w22.out.below hb23)
     have B2_w23 := Lib.hid (B2_w22.out.below hb23)
     have T3_w23 := Lib.hid (T3_w22.out.below hb23)
     have B3_w23 := Lib.hid (B3_w22.out.below hb23)
     have T4_w23 := Lib.hid (T4_w22.out.below hb23)
     have B4_w23 := Lib.hid (B4_w22.out.below hb23)
     have None_w23 := Lib.hid (None_w22.out.below hb23)
     have z0_w23 : w.heap.size < w23.heap.size := Nat.lt_of_lt_of_le z0_w22 hb23.size
     have z1_w23 : w10.heap.size < w23.heap.size := Nat.lt_of_lt_of_le z1_w22 hb23.size
     have z2_w23 : w12.heap.size < w23.heap.size := Nat.lt_of_lt_of_le z2_w22 hb23.size
     have z3_w23 : w14.heap.size < w23.heap.size := Nat.lt_of_lt_of_le z3_w22 hb23.size
     have z4_w23 : w16.heap.size < w23.heap.size := Nat.lt_of_lt_of_le z4_w22 hb23.size
     have z5_w23 : w17.heap.size < w23.heap.size := Nat.lt_of_lt_of_le z5_w22 hb23.size
     have B_w23 := bt B_w22 hb23
     clear T0_w22 T_w22 T1_w22 B1_w22 T2_w22 B2_w22 T3_w22 B3_w22 T4_w22 B4_w22 None_w22 z0_w22 z1_w22 z2_w22 z3_w22 z4_w22 z5_w22 B_w22 hb23
     have o_B2_0 := B2_w23.out.c (i := 0) rfl
     have o_B2_1 := B2_w23.out.c (i := 1) rfl
     have o_B2_2 := B2_w23.out.c (i := 2) rfl
     have o_None_0 := None_w23.out.c (i := 0) rfl
     have o_None_1 := None_w23.out.c (i := 1) rfl
     have o_None_2 := None_w23.out.c (i := 2) rfl
     go_wp2_with fail
     clear o_B2_0 o_B2_1 o_B2_2 o_None_0 o_None_1 o_None_2
     go_at_call 16
     (with_reducible refine (r_same 0 0 T2_w23.out.tab (TabS.empty _) small_nil').mono ?_)
     rintro e w24 ⟨rfl, hb24⟩
     have T0_w24 := Lib.hid (T0_w23.out.below hb24)
     have T_w24 := Lib.hid (T_w23.out.below hb24)
     have T1_w24 := Lib.hid (T1_w23.out.below hb24)
     have B1_w24 := Lib.hid (B1_w23.out.below hb24)
     have T2_w24 := Lib.hid (T2_w23.out.below hb24)
     have B2_w24 := Lib.hid (B2_w23.out.below hb24)
     have T3_w24 := Lib.hid (T3_w23.out.below hb24)
     have B3_w24 := Lib.hid (B3_w23.out.below hb24)
     have T4_w24 := Lib.hid (T4_w23.out.below hb24)
     have B4_w24 := Lib.hid (B4_w23.out.below hb24)
     have None_w24 := Lib.hid (None_w23.out.below hb24)
     have z0_w24 : w.heap.size < w24.heap.size := Nat.lt_of_lt_of_le z0_w23 hb24.size
     have z1_w24 : w10.heap.size < w24.heap.size := Nat.lt_of_lt_of_le z1_w23 hb24.size
     have z2_w24 : w12.heap.size < w24.heap.size := Nat.lt_of_lt_of_le z2_w23 hb24.size
     have z3_w24 : w14.heap.size < w24.heap.size := Nat.lt_of_lt_of_le z3_w23 hb24.size
     have z4_w24 : w16.heap.size < w24.heap.size := Nat.lt_of_lt_of_le z4_w23 hb24.size
     have z5_w24 : w17.heap.size < w24.heap.size := Nat.lt_of_lt_of_le z5_w23 hb24.size
     have B_w24 := bt B_w23 hb24
     clear T0_w23 T_w23 T1_w23 B1_w23 T2_w23 B2_w23 T3_w23 B3_w23 T4_w23 B4_w23 None_w23 z0_w23 z1_w23 z2_w23 z3_w23 z4_w23 z5_w23 B_w23 hb24
     go_wp2_with fail
     go_ret
     exact ⟨rfl, B_w24⟩
    | true =>
     have o_T0_0 := T0_w21.out.c (i := 0) rfl
     have o_T0_1 := T0_w21.out.c (i := 1) rfl
     have o_T0_2 := T0_w21.out.c (i := 2) rfl
     go_wp2_with fail
     clear o_T0_0 o_T0_1 o_T0_2
     go_at_call 29
     (with_reducible refine (r_pinned s ag a T_w21.out hsm.out hnb.out hm).mono ?_)
     rintro e w22 ⟨rfl, hb22⟩
     have T0_w22 := Lib.hid (T0_w21.out.below hb22)
     have T_w22 := Lib.hid (T_w21.out.below hb22)
     have T1_w22 := Lib.hid (T1_w21.out.below hb22)
     have B1_w22 := Lib.hid (B1_w21.out.below hb22)
     have T2_w22 := Lib.hid (T2_w21.out.below hb22)
     have B2_w22 := Lib.hid (B2_w21.out.below hb22)
     have T3_w22 := Lib.hid (T3_w21.out.below hb22)
     have B3_w22 := Lib.hid (B3_w21.out.below hb22)
     have T4_w22 := Lib.hid (T4_w21.out.below hb22)
     have B4_w22 := Lib.hid (B4_w21.out.below hb22)
     have None_w22 := Lib.hid (None_w21.out.below hb22)
     have z0_w22 : w.heap.size < w22.heap.size := Nat.lt_of_lt_of_le z0_w21 hb22.size
     have z1_w22 : w10.heap.size < w22.heap.size := Nat.lt_of_lt_of_le z1_w21 hb22.size
     have z2_w22 : w12.heap.size < w22.heap.size := Nat.lt_of_lt_of_le z2_w21 hb22.size
     have z3_w22 : w14.heap.size < w22.heap.size := Nat.lt_of_lt_of_le z3_w21 hb22.size
     have z4_w22 : w16.heap.size < w22.heap.size := Nat.lt_of_lt_of_le z4_w21 hb22.size
     have z5_w22 : w17.heap.size < w22.heap.size := Nat.lt_of_lt_of_le z5_w21 hb22.size
     have B_w22 := bt B_w21 hb22
     clear T0_w21 T_w21 T1_w21 B1_w21 T2_w21 B2_w21 T3_w21 B3_w21 T4_w21 B4_w21 None_w21 z0_w21 z1_w21 z2_w21 z3_w21 z4_w21 z5_w21 B_w21 hb22
     replace hm := Lib.hid hm
     cases hpw : pinW (entO bs a) with
     | false =>
      obtain ⟨rfl, rfl, rfl, rfl⟩ : [] = by_ ∧ 0 = sy ∧ 0 = gy ∧ 4 = ey := by
        rcases hY.out with ⟨h1, _⟩ | ⟨_, _, h⟩ | ⟨_, h1, _⟩
        · rw [hm.out] at h1; cases h1
        · exact h
        · rw [hpw] at h1; cases h1
      replace hpw := Lib.hid hpw
      clear hY
      have o_B2_0 := B2_w22.out.c (i := 0) rfl
      have o_B2_1 := B2_w22.out.c (i := 1) rfl
      have o_B2_2 := B2_w22.out.c (i := 2) rfl
      have o_None_0 := None_w22.out.c (i := 0) rfl
      have o_None_1 := None_w22.out.c (i := 1) rfl
      have o_None_2 := None_w22.out.c (i := 2) rfl
      go_wp2_with fail
      clear o_B2_0 o_B2_1 o_B2_2 o_None_0 o_None_1 o_None_2
      go_at_call 16
      (with_reducible refine (r_same 0 0 T2_w22.out.tab (TabS.empty _) small_nil').mono ?_)
      rintro e w23 ⟨rfl, hb23⟩
      have T0_w23 := Lib.hid (T0_w22.out.below hb23)
      have T_w23 := Lib.hid (T_w22.out.below hb23)
      have T1_w23 := Lib.hid (T1_w22.out.below hb23)
      have B1_w23 := Lib.hid (B1_w22.out.below hb23)
      have T2_w23 := Lib.hid (T2_w22.out.below hb23)
      have B2_w23 := Lib.hid (B2_w22.out.below hb23)
      have T3_w23 := Lib.hid (T3_w22.out.below hb23)
      have B3_w23 := Lib.hid (B3_w22.out.below hb23)
      have T4_w23 := Lib.hid (T4_w22.out.below hb23)
      have B4_w23 := Lib.hid (B4_w22.out.below hb23)
      have None_w23 := Lib.hid (None_w22.out.below hb23)
      have z0_w23 : w.heap.size < w23.heap.size := Nat.lt_of_lt_of_le z0_w22 hb23.size
      have z1_w23 : w10.heap.size < w23.heap.size := Nat.lt_of_lt_of_le z1_w22 hb23.size
      have z2_w23 : w12.heap.size < w23.heap.size := Nat.lt_of_lt_of_le z2_w22 hb23.size
      have z3_w23 : w14.heap.size < w23.heap.size := Nat.lt_of_lt_of_le z3_w22 hb23.size
      have z4_w23 : w16.heap.size < w23.heap.size := Nat.lt_of_lt_of_le z4_w22 hb23.size
      have z5_w23 : w17.heap.size < w23.heap.size := Nat.lt_of_lt_of_le z5_w22 hb23.size
      have B_w23 := bt B_w22 hb23
      clear T0_w22 T_w22 T1_w22 B1_w22 T2_w22 B2_w22 T3_w22 B3_w22 T4_w22 B4_w22 None_w22 z0_w22 z1_w22 z2_w22 z3_w22 z4_w22 z5_w22 B_w22 hb23
      go_wp2_with fail
      go_at_call 21
      (with_reducible refine (hPort.out _).mono ?_)
      rintro e w' ⟨rfl, rfl⟩
      have hX2 : (rPutO bs s ⟨a, port, 0, true⟩ = none ∧ [] = bx ∧ 0 = sx ∧ 0 = gx ∧ 5 = ex) ∨ (rPutO bs s ⟨a, port, 0, true⟩ = some bx ∧ Small bx ∧ s = sx ∧ ag = gx ∧ 0 = ex) := by
        rcases hX.out with ⟨h1, _⟩ | ⟨_, h⟩ | ⟨_, h⟩
        · rw [hm.out, hpo.out] at h1; cases h1
        · exact .inl h
        · exact .inr h
      clear hX
      rcases hX2 with ⟨ho, rfl, rfl, rfl, rfl⟩ | ⟨ho, hsx, rfl, rfl, rfl⟩
      · replace ho := Lib.hid ho
        have o_T0_0 := T0_w23.out.c (i := 0) rfl
        have o_T0_1 := T0_w23.out.c (i := 1) rfl
        have o_T0_2 := T0_w23.out.c (i := 2) rfl
        go_wp2_with fail
        clear o_T0_0 o_T0_1 o_T0_2
        go_at_call 31
        (with_reducible refine (r_pin_no s ag a port T_w23.out hsm.out hbl.out hnb.out hm.out ho.out).mono ?_)
        rintro e w24 ⟨A5, n5, c5, rfl, T5, hb24⟩
        have T0_w24 := Lib.hid (T0_w23.out.below hb24)
        have T_w24 := Lib.hid (T_w23.out.below hb24)
        have T1_w24 := Lib.hid (T1_w23.out.below hb24)
        have B1_w24 := Lib.hid (B1_w23.out.below hb24)
        have T2_w24 := Lib.hid (T2_w23.out.below hb24)
        have B2_w24 := Lib.hid (B2_w23.out.below hb24)
        have T3_w24 := Lib.hid (T3_w23.out.below hb24)
        have B3_w24 := Lib.hid (B3_w23.out.below hb24)
        have T4_w24 := Lib.hid (T4_w23.out.below hb24)
        have B4_w24 := Lib.hid (B4_w23.out.below hb24)
        have None_w24 := Lib.hid (None_w23.out.below hb24)
        have T5_w24 := Lib.hid (T5)
        have z0_w24 : w.heap.size < w24.heap.size := Nat.lt_of_lt_of_le z0_w23 hb24.size
        have z1_w24 : w10.heap.size < w24.heap.size := Nat.lt_of_lt_of_le z1_w23 hb24.size
        have z2_w24 : w12.heap.size < w24.heap.size := Nat.lt_of_lt_of_le z2_w23 hb24.size
        have z3_w24 : w14.heap.size < w24.heap.size := Nat.lt_of_lt_of_le z3_w23 hb24.size
        have z4_w24 : w16.heap.size < w24.heap.size := Nat.lt_of_lt_of_le z4_w23 hb24.size
        have z5_w24 : w17.heap.size < w24.heap.size := Nat.lt_of_lt_of_le z5_w23 hb24.size
        have B_w24 := bt B_w23 hb24
        clear T0_w23 T_w23 T1_w23 B1_w23 T2_w23 B2_w23 T3_w23 B3_w23 T4_w23 B4_w23 None_w23 z0_w23 z1_w23 z2_w23 z3_w23 z4_w23 z5_w23 B_w23 hb24
        clear T5
        go_wp2_with fail
        obtain ⟨w25, hw25⟩ : ∃ W, W = w24.alloc (.cells #[.slice A5 n5 c5, .int .i64 s, .int .i64 ag] 24) := ⟨_, rfl⟩
        have bw25 : Below w24.heap.size w24 w25 := by rw [hw25]; exact (Below.refl _ _).alloc (Nat.le_refl _) _
        have Xw25 : Bx w25 w24.heap.size 24 #[.slice A5 n5 c5, .int .i64 s, .int .i64 ag] := by rw [hw25]; exact Bx.new _ _ _ rfl
        rw [← hw25]
        clear hw25
        have T0_w25 := Lib.hid (T0_w24.out.below bw25)
        have T_w25 := Lib.hid (T_w24.out.below bw25)
        have T1_w25 := Lib.hid (T1_w24.out.below bw25)
        have B1_w25 := Lib.hid (B1_w24.out.below bw25)
        have T2_w25 := Lib.hid (T2_w24.out.below bw25)
        have B2_w25 := Lib.hid (B2_w24.out.below bw25)
        have T3_w25 := Lib.hid (T3_w24.out.below bw25)
        have B3_w25 := Lib.hid (B3_w24.out.below bw25)
        have T4_w25 := Lib.hid (T4_w24.out.below bw25)
        have B4_w25 := Lib.hid (B4_w24.out.below bw25)
        have None_w25 := Lib.hid (None_w24.out.below bw25)
        have T5_w25 := Lib.hid (T5_w24.out.below bw25)
        have W5_w25 := Lib.hid (Xw25)
        have z0_w25 : w.heap.size < w25.heap.size := Nat.lt_of_lt_of_le z0_w24 bw25.size
        have z1_w25 : w10.heap.size < w25.heap.size := Nat.lt_of_lt_of_le z1_w24 bw25.size
        have z2_w25 : w12.heap.size < w25.heap.size := Nat.lt_of_lt_of_le z2_w24 bw25.size
        have z3_w25 : w14.heap.size < w25.heap.size := Nat.lt_of_lt_of_le z3_w24 bw25.size
        have z4_w25 : w16.heap.size < w25.heap.size := Nat.lt_of_lt_of_le z4_w24 bw25.size
        have z5_w25 : w17.heap.size < w25.heap.size := Nat.lt_of_lt_of_le z5_w24 bw25.size
        have B_w25 := bt B_w24 bw25
        clear T0_w24 T_w24 T1_w24 B1_w24 T2_w24 B2_w24 T3_w24 B3_w24 T4_w24 B4_w24 None_w24 T5_w24 z0_w24 z1_w24 z2_w24 z3_w24 z4_w24 z5_w24 B_w24 bw25
        have z6_w25 : w24.heap.size < w25.heap.size := Xw25.lt
        clear Xw25
        go_at_call 14
        (with_reducible refine (alive_any _).mono ?_)
        rintro e w26 ⟨rfl, hb26⟩
        have T0_w26 := Lib.hid (T0_w25.out.below hb26)
        have T_w26 := Lib.hid (T_w25.out.below hb26)
        have T1_w26 := Lib.hid (T1_w25.out.below hb26)
        have B1_w26 := Lib.hid (B1_w25.out.below hb26)
        have T2_w26 := Lib.hid (T2_w25.out.below hb26)
        have B2_w26 := Lib.hid (B2_w25.out.below hb26)
        have T3_w26 := Lib.hid (T3_w25.out.below hb26)
        have B3_w26 := Lib.hid (B3_w25.out.below hb26)
        have T4_w26 := Lib.hid (T4_w25.out.below hb26)
        have B4_w26 := Lib.hid (B4_w25.out.below hb26)
        have None_w26 := Lib.hid (None_w25.out.below hb26)
        have T5_w26 := Lib.hid (T5_w25.out.below hb26)
        have W5_w26 := Lib.hid (W5_w25.out.below hb26)
        have z0_w26 : w.heap.size < w26.heap.size := Nat.lt_of_lt_of_le z0_w25 hb26.size
        have z1_w26 : w10.heap.size < w26.heap.size := Nat.lt_of_lt_of_le z1_w25 hb26.size
        have z2_w26 : w12.heap.size < w26.heap.size := Nat.lt_of_lt_of_le z2_w25 hb26.size
        have z3_w26 : w14.heap.size < w26.heap.size := Nat.lt_of_lt_of_le z3_w25 hb26.size
        have z4_w26 : w16.heap.size < w26.heap.size := Nat.lt_of_lt_of_le z4_w25 hb26.size
        have z5_w26 : w17.heap.size < w26.heap.size := Nat.lt_of_lt_of_le z5_w25 hb26.size
        have z6_w26 : w24.heap.size < w26.heap.size := Nat.lt_of_lt_of_le z6_w25 hb26.size
        have B_w26 := bt B_w25 hb26
        clear T0_w25 T_w25 T1_w25 B1_w25 T2_w25 B2_w25 T3_w25 B3_w25 T4_w25 B4_w25 None_w25 T5_w25 W5_w25 z0_w25 z1_w25 z2_w25 z3_w25 z4_w25 z5_w25 z6_w25 B_w25 hb26
        have o_B1_0 := B1_w26.out.c (i := 0) rfl
        have o_B1_1 := B1_w26.out.c (i := 1) rfl
        have o_B1_2 := B1_w26.out.c (i := 2) rfl
        have o_None_0 := None_w26.out.c (i := 0) rfl
        have o_None_1 := None_w26.out.c (i := 1) rfl
        have o_None_2 := None_w26.out.c (i := 2) rfl
        go_wp2_with fail
        clear o_B1_0 o_B1_1 o_B1_2 o_None_0 o_None_1 o_None_2
        go_at_call 16
        (with_reducible refine (r_same 0 0 T1_w26.out.tab (TabS.empty _) small_nil').mono ?_)
        rintro e w27 ⟨rfl, hb27⟩
        have T0_w27 := Lib.hid (T0_w26.out.below hb27)
        have T_w27 := Lib.hid (T_w26.out.below hb27)
        have T1_w27 := Lib.hid (T1_w26.out.below hb27)
        have B1_w27 := Lib.hid (B1_w26.out.below hb27)
        have T2_w27 := Lib.hid (T2_w26.out.below hb27)
        have B2_w27 := Lib.hid (B2_w26.out.below hb27)
        have T3_w27 := Lib.hid (T3_w26.out.below hb27)
        have B3_w27 := Lib.hid (B3_w26.out.below hb27)
        have T4_w27 := Lib.hid (T4_w26.out.below hb27)
        have B4_w27 := Lib.hid (B4_w26.out.below hb27)
        have None_w27 := Lib.hid (None_w26.out.below hb27)
        have T5_w27 := Lib.hid (T5_w26.out.below hb27)
        have W5_w27 := Lib.hid (W5_w26.out.below hb27)
        have z0_w27 : w.heap.size < w27.heap.size := Nat.lt_of_lt_of_le z0_w26 hb27.size
        have z1_w27 : w10.heap.size < w27.heap.size := Nat.lt_of_lt_of_le z1_w26 hb27.size
        have z2_w27 : w12.heap.size < w27.heap.size := Nat.lt_of_lt_of_le z2_w26 hb27.size
        have z3_w27 : w14.heap.size < w27.heap.size := Nat.lt_of_lt_of_le z3_w26 hb27.size
        have z4_w27 : w16.heap.size < w27.heap.size := Nat.lt_of_lt_of_le z4_w26 hb27.size
        have z5_w27 : w17.heap.size < w27.heap.size := Nat.lt_of_lt_of_le z5_w26 hb27.size
        have z6_w27 : w24.heap.size < w27.heap.size := Nat.lt_of_lt_of_le z6_w26 hb27.size
        have B_w27 := bt B_w26 hb27
        clear T0_w26 T_w26 T1_w26 B1_w26 T2_w26 B2_w26 T3_w26 B3_w26 T4_w26 B4_w26 None_w26 T5_w26 W5_w26 z0_w26 z1_w26 z2_w26 z3_w26 z4_w26 z5_w26 z6_w26 B_w26 hb27
        go_wp2_with fail
        go_ret
        exact ⟨rfl, B_w27⟩
      · replace ho := Lib.hid ho
        replace hsx := Lib.hid hsx
        have o_T0_0 := T0_w23.out.c (i := 0) rfl
        have o_T0_1 := T0_w23.out.c (i := 1) rfl
        have o_T0_2 := T0_w23.out.c (i := 2) rfl
        go_wp2_with fail
        clear o_T0_0 o_T0_1 o_T0_2
        go_at_call 31
        (with_reducible refine (r_pin_yes s ag a port T_w23.out hsm.out hbl.out hnb.out hm.out ho.out).mono ?_)
        rintro e w24 ⟨A5, n5, c5, rfl, T5, hb24⟩
        have T0_w24 := Lib.hid (T0_w23.out.below hb24)
        have T_w24 := Lib.hid (T_w23.out.below hb24)
        have T1_w24 := Lib.hid (T1_w23.out.below hb24)
        have B1_w24 := Lib.hid (B1_w23.out.below hb24)
        have T2_w24 := Lib.hid (T2_w23.out.below hb24)
        have B2_w24 := Lib.hid (B2_w23.out.below hb24)
        have T3_w24 := Lib.hid (T3_w23.out.below hb24)
        have B3_w24 := Lib.hid (B3_w23.out.below hb24)
        have T4_w24 := Lib.hid (T4_w23.out.below hb24)
        have B4_w24 := Lib.hid (B4_w23.out.below hb24)
        have None_w24 := Lib.hid (None_w23.out.below hb24)
        have T5_w24 := Lib.hid (T5)
        have z0_w24 : w.heap.size < w24.heap.size := Nat.lt_of_lt_of_le z0_w23 hb24.size
        have z1_w24 : w10.heap.size < w24.heap.size := Nat.lt_of_lt_of_le z1_w23 hb24.size
        have z2_w24 : w12.heap.size < w24.heap.size := Nat.lt_of_lt_of_le z2_w23 hb24.size
        have z3_w24 : w14.heap.size < w24.heap.size := Nat.lt_of_lt_of_le z3_w23 hb24.size
        have z4_w24 : w16.heap.size < w24.heap.size := Nat.lt_of_lt_of_le z4_w23 hb24.size
        have z5_w24 : w17.heap.size < w24.heap.size := Nat.lt_of_lt_of_le z5_w23 hb24.size
        have B_w24 := bt B_w23 hb24
        clear T0_w23 T_w23 T1_w23 B1_w23 T2_w23 B2_w23 T3_w23 B3_w23 T4_w23 B4_w23 None_w23 z0_w23 z1_w23 z2_w23 z3_w23 z4_w23 z5_w23 B_w23 hb24
        clear T5
        go_wp2_with fail
        obtain ⟨w25, hw25⟩ : ∃ W, W = w24.alloc (.cells #[.slice A5 n5 c5, .int .i64 s, .int .i64 ag] 24) := ⟨_, rfl⟩
        have bw25 : Below w24.heap.size w24 w25 := by rw [hw25]; exact (Below.refl _ _).alloc (Nat.le_refl _) _
        have Xw25 : Bx w25 w24.heap.size 24 #[.slice A5 n5 c5, .int .i64 s, .int .i64 ag] := by rw [hw25]; exact Bx.new _ _ _ rfl
        rw [← hw25]
        clear hw25
        have T0_w25 := Lib.hid (T0_w24.out.below bw25)
        have T_w25 := Lib.hid (T_w24.out.below bw25)
        have T1_w25 := Lib.hid (T1_w24.out.below bw25)
        have B1_w25 := Lib.hid (B1_w24.out.below bw25)
        have T2_w25 := Lib.hid (T2_w24.out.below bw25)
        have B2_w25 := Lib.hid (B2_w24.out.below bw25)
        have T3_w25 := Lib.hid (T3_w24.out.below bw25)
        have B3_w25 := Lib.hid (B3_w24.out.below bw25)
        have T4_w25 := Lib.hid (T4_w24.out.below bw25)
        have B4_w25 := Lib.hid (B4_w24.out.below bw25)
        have None_w25 := Lib.hid (None_w24.out.below bw25)
        have T5_w25 := Lib.hid (T5_w24.out.below bw25)
        have W5_w25 := Lib.hid (Xw25)
        have z0_w25 : w.heap.size < w25.heap.size := Nat.lt_of_lt_of_le z0_w24 bw25.size
        have z1_w25 : w10.heap.size < w25.heap.size := Nat.lt_of_lt_of_le z1_w24 bw25.size
        have z2_w25 : w12.heap.size < w25.heap.size := Nat.lt_of_lt_of_le z2_w24 bw25.size
        have z3_w25 : w14.heap.size < w25.heap.size := Nat.lt_of_lt_of_le z3_w24 bw25.size
        have z4_w25 : w16.heap.size < w25.heap.size := Nat.lt_of_lt_of_le z4_w24 bw25.size
        have z5_w25 : w17.heap.size < w25.heap.size := Nat.lt_of_lt_of_le z5_w24 bw25.size
        have B_w25 := bt B_w24 bw25
        clear T0_w24 T_w24 T1_w24 B1_w24 T2_w24 B2_w24 T3_w24 B3_w24 T4_w24 B4_w24 None_w24 T5_w24 z0_w24 z1_w24 z2_w24 z3_w24 z4_w24 z5_w24 B_w24 bw25
        have z6_w25 : w24.heap.size < w25.heap.size := Xw25.lt
        clear Xw25
        go_at_call 14
        (with_reducible refine (alive_any _).mono ?_)
        rintro e w26 ⟨rfl, hb26⟩
        have T0_w26 := Lib.hid (T0_w25.out.below hb26)
        have T_w26 := Lib.hid (T_w25.out.below hb26)
        have T1_w26 := Lib.hid (T1_w25.out.below hb26)
        have B1_w26 := Lib.hid (B1_w25.out.below hb26)
        have T2_w26 := Lib.hid (T2_w25.out.below hb26)
        have B2_w26 := Lib.hid (B2_w25.out.below hb26)
        have T3_w26 := Lib.hid (T3_w25.out.below hb26)
        have B3_w26 := Lib.hid (B3_w25.out.below hb26)
        have T4_w26 := Lib.hid (T4_w25.out.below hb26)
        have B4_w26 := Lib.hid (B4_w25.out.below hb26)
        have None_w26 := Lib.hid (None_w25.out.below hb26)
        have T5_w26 := Lib.hid (T5_w25.out.below hb26)
        have W5_w26 := Lib.hid (W5_w25.out.below hb26)
        have z0_w26 : w.heap.size < w26.heap.size := Nat.lt_of_lt_of_le z0_w25 hb26.size
        have z1_w26 : w10.heap.size < w26.heap.size := Nat.lt_of_lt_of_le z1_w25 hb26.size
        have z2_w26 : w12.heap.size < w26.heap.size := Nat.lt_of_lt_of_le z2_w25 hb26.size
        have z3_w26 : w14.heap.size < w26.heap.size := Nat.lt_of_lt_of_le z3_w25 hb26.size
        have z4_w26 : w16.heap.size < w26.heap.size := Nat.lt_of_lt_of_le z4_w25 hb26.size
        have z5_w26 : w17.heap.size < w26.heap.size := Nat.lt_of_lt_of_le z5_w25 hb26.size
        have z6_w26 : w24.heap.size < w26.heap.size := Nat.lt_of_lt_of_le z6_w25 hb26.size
        have B_w26 := bt B_w25 hb26
        clear T0_w25 T_w25 T1_w25 B1_w25 T2_w25 B2_w25 T3_w25 B3_w25 T4_w25 B4_w25 None_w25 T5_w25 W5_w25 z0_w25 z1_w25 z2_w25 z3_w25 z4_w25 z5_w25 z6_w25 B_w25 hb26
        have o_B1_0 := B1_w26.out.c (i := 0) rfl
        have o_B1_1 := B1_w26.out.c (i := 1) rfl
        have o_B1_2 := B1_w26.out.c (i := 2) rfl
        have o_W5_0 := W5_w26.out.c (i := 0) rfl
        have o_W5_1 := W5_w26.out.c (i := 1) rfl
        have o_W5_2 := W5_w26.out.c (i := 2) rfl
        go_wp2_with fail
        clear o_B1_0 o_B1_1 o_B1_2 o_W5_0 o_W5_1 o_W5_2
        go_at_call 16
        (with_reducible refine (r_same s ag T1_w26.out.tab T5_w26.out hsx.out).mono ?_)
        rintro e w27 ⟨rfl, hb27⟩
        have T0_w27 := Lib.hid (T0_w26.out.below hb27)
        have T_w27 := Lib.hid (T_w26.out.below hb27)
        have T1_w27 := Lib.hid (T1_w26.out.below hb27)
        have B1_w27 := Lib.hid (B1_w26.out.below hb27)
        have T2_w27 := Lib.hid (T2_w26.out.below hb27)
        have B2_w27 := Lib.hid (B2_w26.out.below hb27)
        have T3_w27 := Lib.hid (T3_w26.out.below hb27)
        have B3_w27 := Lib.hid (B3_w26.out.below hb27)
        have T4_w27 := Lib.hid (T4_w26.out.below hb27)
        have B4_w27 := Lib.hid (B4_w26.out.below hb27)
        have None_w27 := Lib.hid (None_w26.out.below hb27)
        have T5_w27 := Lib.hid (T5_w26.out.below hb27)
        have W5_w27 := Lib.hid (W5_w26.out.below hb27)
        have z0_w27 : w.heap.size < w27.heap.size := Nat.lt_of_lt_of_le z0_w26 hb27.size
        have z1_w27 : w10.heap.size < w27.heap.size := Nat.lt_of_lt_of_le z1_w26 hb27.size
        have z2_w27 : w12.heap.size < w27.heap.size := Nat.lt_of_lt_of_le z2_w26 hb27.size
        have z3_w27 : w14.heap.size < w27.heap.size := Nat.lt_of_lt_of_le z3_w26 hb27.size
        have z4_w27 : w16.heap.size < w27.heap.size := Nat.lt_of_lt_of_le z4_w26 hb27.size
        have z5_w27 : w17.heap.size < w27.heap.size := Nat.lt_of_lt_of_le z5_w26 hb27.size
        have z6_w27 : w24.heap.size < w27.heap.size := Nat.lt_of_lt_of_le z6_w26 hb27.size
        have B_w27 := bt B_w26 hb27
        clear T0_w26 T_w26 T1_w26 B1_w26 T2_w26 B2_w26 T3_w26 B3_w26 T4_w26 B4_w26 None_w26 T5_w26 W5_w26 z0_w26 z1_w26 z2_w26 z3_w26 z4_w26 z5_w26 z6_w26 B_w26 hb27
        go_wp2_with fail
        go_ret
        exact ⟨rfl, B_w27⟩
     | true =>
      obtain ⟨hby, hsy, rfl, rfl, rfl⟩ : rUnpin bs a = by_ ∧ Small by_ ∧ s = sy ∧ ag = gy ∧ 0 = ey := by
        rcases hY.out with ⟨h1, _⟩ | ⟨_, h1, _⟩ | ⟨_, _, h⟩
        · rw [hm.out] at h1; cases h1
        · rw [hpw] at h1; cases h1
        · exact h
      replace hpw := Lib.hid hpw
      replace hby := Lib.hid hby
      replace hsy := Lib.hid hsy
      clear hY
      go_wp2_with fail
      have o_B2_0 := B2_w22.out.c (i := 0) rfl
      have o_B2_1 := B2_w22.out.c (i := 1) rfl
      have o_B2_2 := B2_w22.out.c (i := 2) rfl
      have o_T0_0 := T0_w22.out.c (i := 0) rfl
      have o_T0_1 := T0_w22.out.c (i := 1) rfl
      have o_T0_2 := T0_w22.out.c (i := 2) rfl
      refine wp_region_opsG (by kernel_rfl) (fun ix => match ix with | 0 => 168 | 1 => 169 | 2 => 170 | 3 => 171 | 4 => 172 | 5 => 173 | 6 => 174 | 7 => 175 | 8 => 176 | 9 => 177 | _ => 0) [(2, false)] (by kernel_rfl) (by kernel_rfl) (fun i v W => match i with | 0 => v = .int .i64 0 | 1 => v = .bool false | 2 => v = .bool false | 3 => v = tbv (.slice A2 n2 c2) s ag | 4 => v = tbv (.slice A n c) s ag | 5 => v = .int .i64 a | 6 => ∃ A n c, v = tbv (.slice A n c) s ag ∧ TabS W A n c by_ | 7 => v = .bool true | 8 => v = .bool false | 9 => v = .bool false | _ => True) (fun i v W W' h hb => by
          match i with
          | 0 => exact h
          | 1 => exact h
          | 2 => exact h
          | 3 => exact h
          | 4 => exact h
          | 5 => exact h
          | 7 => exact h
          | 8 => exact h
          | 9 => exact h
          | 6 => (obtain ⟨A, n, c, h1, h2⟩ := h; exact ⟨A, n, c, h1, h2.below hb⟩)
          | n + 10 => exact trivial) (fun g hg v W h => by
          simp only [List.mem_singleton] at hg
          subst hg
          exact h) ?_ ?_
      refine ⟨?_, ?_, ?_, ?_, ?_, ?_, ?_, ?_, ?_, ?_, trivial⟩
      · as_aux_lemma =>
          intro a9 W2 K hb hdep hk hK
          replace hK : ∀ v w', (v = .int .i64 0) → Below W2.heap.size W2 w' → K (a9.put (some 168) v) w' := hK
          have d12 : a9.tmps.getD 12 undef = .int .i64 0 := hk 12 (by kernel_rfl)
          clear hdep hk
          go_simp
          exact hK _ _ rfl (Below.refl _ _)
      · as_aux_lemma =>
          intro a9 W2 K hb hdep hk hK
          replace hK : ∀ v w', (v = .bool false) → Below W2.heap.size W2 w' → K (a9.put (some 169) v) w' := hK
          have d168 : a9.tmps.getD 168 undef = .int .i64 0 := hdep ⟨0, .data⟩ (by simp) rfl
          clear hdep hk
          go_simp
          exact hK _ _ rfl (Below.refl _ _)
      · as_aux_lemma =>
          intro a9 W2 K hb hdep hk hK
          replace hK : ∀ v w', (v = .bool false) → Below W2.heap.size W2 w' → K (a9.put (some 170) v) w' := hK
          have d169 : a9.tmps.getD 169 undef = .bool false := hdep ⟨1, .data⟩ (by simp) rfl
          clear hdep hk
          go_simp
          exact hK _ _ rfl (Below.refl _ _)
      · as_aux_lemma =>
          intro a9 W2 K hb hdep hk hK
          replace hK : ∀ v w', (v = tbv (.slice A2 n2 c2) s ag) → Below W2.heap.size W2 w' → K (a9.put (some 171) v) w' := hK
          have d11 : a9.tmps.getD 11 undef = .pointer (some ⟨w12.heap.size, 0, none⟩) := hk 11 (by kernel_rfl)
          have t0 := (hb.cell (p := ⟨w12.heap.size, 0, none⟩) z2_w22).trans o_B2_0
          have t1 := (hb.cell (p := ⟨w12.heap.size, 1, none⟩) z2_w22).trans o_B2_1
          have t2 := (hb.cell (p := ⟨w12.heap.size, 2, none⟩) z2_w22).trans o_B2_2
          clear hdep hk
          go_simp
          exact hK _ _ rfl (Below.refl _ _)
      · as_aux_lemma =>
          intro a9 W2 K hb hdep hk hK
          replace hK : ∀ v w', (v = tbv (.slice A n c) s ag) → Below W2.heap.size W2 w' → K (a9.put (some 172) v) w' := hK
          have d4 : a9.tmps.getD 4 undef = .pointer (some ⟨w.heap.size, 0, none⟩) := hk 4 (by kernel_rfl)
          have t0 := (hb.cell (p := ⟨w.heap.size, 0, none⟩) z0_w22).trans o_T0_0
          have t1 := (hb.cell (p := ⟨w.heap.size, 1, none⟩) z0_w22).trans o_T0_1
          have t2 := (hb.cell (p := ⟨w.heap.size, 2, none⟩) z0_w22).trans o_T0_2
          clear hdep hk
          go_simp
          exact hK _ _ rfl (Below.refl _ _)
      · as_aux_lemma =>
          intro a9 W2 K hb hdep hk hK
          replace hK : ∀ v w', (v = .int .i64 a) → Below W2.heap.size W2 w' → K (a9.put (some 173) v) w' := hK
          have d1 : a9.tmps.getD 1 undef = .int .i64 a := hk 1 (by kernel_rfl)
          clear hdep hk
          go_simp
          exact hK _ _ rfl (Below.refl _ _)
      · as_aux_lemma =>
          intro a9 W2 K hb hdep hk hK
          replace hK : ∀ v w', (∃ A n c, v = tbv (.slice A n c) s ag ∧ TabS w' A n c by_) → Below W2.heap.size W2 w' → K (a9.put (some 174) v) w' := hK
          have d172 : a9.tmps.getD 172 undef = tbv (.slice A n c) s ag := hdep ⟨4, .data⟩ (by simp) rfl
          have d173 : a9.tmps.getD 173 undef = .int .i64 a := hdep ⟨5, .data⟩ (by simp) rfl
          have hcall := r_unpin s ag a (T_w22.out.below hb) hsm.out hbl.out hnb.out hm.out
          rw [hby.out] at hcall
          replace hcall := Lib.hid hcall
          clear hdep hk
          have q172 : a9.tmps[172]?.getD undef = tbv (.slice A n c) s ag := by simpa [Array.getD_eq_getD_getElem?] using d172
          clear d172
          go_simp
          refine hcall.out.mono ?_
          rintro e w9 ⟨A8, n8, c8, rfl, r1, r2⟩
          exact hK _ _ ⟨A8, n8, c8, rfl, r1⟩ r2
      · as_aux_lemma =>
          intro a9 W2 K hb hdep hk hK
          replace hK : ∀ v w', (v = .bool true) → Below W2.heap.size W2 w' → K (a9.put (some 175) v) w' := hK
          have d171 : a9.tmps.getD 171 undef = tbv (.slice A2 n2 c2) s ag := hdep ⟨3, .data⟩ (by simp) rfl
          obtain ⟨A8, n8, c8, d174, r1⟩ : ∃ A n c, a9.tmps.getD 174 undef = tbv (.slice A n c) s ag ∧ TabS W2 A n c by_ := hdep ⟨6, .data⟩ (by simp) rfl
          have hcall := Lib.hid (r_same s ag (T2_w22.out.below hb).tab r1 hsy.out)
          clear hdep hk
          have q171 : a9.tmps[171]?.getD undef = tbv (.slice A2 n2 c2) s ag := by simpa [Array.getD_eq_getD_getElem?] using d171
          clear d171
          have q174 : a9.tmps[174]?.getD undef = tbv (.slice A8 n8 c8) s ag := by simpa [Array.getD_eq_getD_getElem?] using d174
          clear d174
          go_simp
          refine hcall.out.mono ?_
          rintro e w9 ⟨rfl, r2⟩
          exact hK _ _ rfl r2
      · as_aux_lemma =>
          intro a9 W2 K hb hdep hk hK
          replace hK : ∀ v w', (v = .bool false) → Below W2.heap.size W2 w' → K (a9.put (some 176) v) w' := hK
          have d175 : a9.tmps.getD 175 undef = .bool true := hdep ⟨7, .data⟩ (by simp) rfl
          clear hdep hk
          go_simp
          exact hK _ _ rfl (Below.refl _ _)
      · as_aux_lemma =>
          intro a9 W2 K hb hdep hk hK
          replace hK : ∀ v w', (v = .bool false) → Below W2.heap.size W2 w' → K (a9.put (some 177) v) w' := hK
          have d170 : a9.tmps.getD 170 undef = .bool false := hdep ⟨2, .data⟩ (by simp) rfl
          have d176 : a9.tmps.getD 176 undef = .bool false := hdep ⟨8, .data⟩ (by simp) rfl
          clear hdep hk
          go_simp
          exact hK _ _ rfl (Below.refl _ _)
      intro af w23 hqw23 hsp hk hn hdf
      have hx9 : af.tmps.getD 177 undef = .bool false := hsp 9 (by decide)
      clear hsp
      have s1 : af.tmps.getD 1 undef = .int .i64 a := hk 1 (by kernel_rfl)
      have s2 : af.tmps.getD 2 undef = .int .i64 port := hk 2 (by kernel_rfl)
      have s3 : af.tmps.getD 3 undef = .int .i64 now := hk 3 (by kernel_rfl)
      have s4 : af.tmps.getD 4 undef = .pointer (some ⟨w.heap.size, 0, none⟩) := hk 4 (by kernel_rfl)
      have s8 : af.tmps.getD 8 undef = .bool false := hk 8 (by kernel_rfl)
      have s9 : af.tmps.getD 9 undef = .pointer (some ⟨w10.heap.size, 0, none⟩) := hk 9 (by kernel_rfl)
      have s10 : af.tmps.getD 10 undef = .int .i64 ex := hk 10 (by kernel_rfl)
      have s11 : af.tmps.getD 11 undef = .pointer (some ⟨w12.heap.size, 0, none⟩) := hk 11 (by kernel_rfl)
      have s12 : af.tmps.getD 12 undef = .int .i64 0 := hk 12 (by kernel_rfl)
      have s13 : af.tmps.getD 13 undef = .pointer (some ⟨w14.heap.size, 0, none⟩) := hk 13 (by kernel_rfl)
      have s14 : af.tmps.getD 14 undef = .int .i64 0 := hk 14 (by kernel_rfl)
      have s15 : af.tmps.getD 15 undef = .pointer (some ⟨w16.heap.size, 0, none⟩) := hk 15 (by kernel_rfl)
      have s16 : af.tmps.getD 16 undef = .int .i64 0 := hk 16 (by kernel_rfl)
      have s17 : af.tmps.getD 17 undef = .pointer (some ⟨w17.heap.size, 0, none⟩) := hk 17 (by kernel_rfl)
      have s177 : af.tmps.getD 177 undef = .bool false := hx9
      clear hk hx9
      obtain ⟨tm, df⟩ := af
      have e := arr_out tm 220 hn
      replace e : tm = #[tm.getD 0 undef, tm.getD 1 undef, tm.getD 2 undef, tm.getD 3 undef, tm.getD 4 undef, tm.getD 5 undef, tm.getD 6 undef, tm.getD 7 undef, tm.getD 8 undef, tm.getD 9 undef, tm.getD 10 undef, tm.getD 11 undef, tm.getD 12 undef, tm.getD 13 undef, tm.getD 14 undef, tm.getD 15 undef, tm.getD 16 undef, tm.getD 17 undef, tm.getD 18 undef, tm.getD 19 undef, tm.getD 20 undef, tm.getD 21 undef, tm.getD 22 undef, tm.getD 23 undef, tm.getD 24 undef, tm.getD 25 undef, tm.getD 26 undef, tm.getD 27 undef, tm.getD 28 undef, tm.getD 29 undef, tm.getD 30 undef, tm.getD 31 undef, tm.getD 32 undef, tm.getD 33 undef, tm.getD 34 undef, tm.getD 35 undef, tm.getD 36 undef, tm.getD 37 undef, tm.getD 38 undef, tm.getD 39 undef, tm.getD 40 undef, tm.getD 41 undef, tm.getD 42 undef, tm.getD 43 undef, tm.getD 44 undef, tm.getD 45 undef, tm.getD 46 undef, tm.getD 47 undef, tm.getD 48 undef, tm.getD 49 undef, tm.getD 50 undef, tm.getD 51 undef, tm.getD 52 undef, tm.getD 53 undef, tm.getD 54 undef, tm.getD 55 undef, tm.getD 56 undef, tm.getD 57 undef, tm.getD 58 undef, tm.getD 59 undef, tm.getD 60 undef, tm.getD 61 undef, tm.getD 62 undef, tm.getD 63 undef, tm.getD 64 undef, tm.getD 65 undef, tm.getD 66 undef, tm.getD 67 undef, tm.getD 68 undef, tm.getD 69 undef, tm.getD 70 undef, tm.getD 71 undef, tm.getD 72 undef, tm.getD 73 undef, tm.getD 74 undef, tm.getD 75 undef, tm.getD 76 undef, tm.getD 77 undef, tm.getD 78 undef, tm.getD 79 undef, tm.getD 80 undef, tm.getD 81 undef, tm.getD 82 undef, tm.getD 83 undef, tm.getD 84 undef, tm.getD 85 undef, tm.getD 86 undef, tm.getD 87 undef, tm.getD 88 undef, tm.getD 89 undef, tm.getD 90 undef, tm.getD 91 undef, tm.getD 92 undef, tm.getD 93 undef, tm.getD 94 undef, tm.getD 95 undef, tm.getD 96 undef, tm.getD 97 undef, tm.getD 98 undef, tm.getD 99 undef, tm.getD 100 undef, tm.getD 101 undef, tm.getD 102 undef, tm.getD 103 undef, tm.getD 104 undef, tm.getD 105 undef, tm.getD 106 undef, tm.getD 107 undef, tm.getD 108 undef, tm.getD 109 undef, tm.getD 110 undef, tm.getD 111 undef, tm.getD 112 undef, tm.getD 113 undef, tm.getD 114 undef, tm.getD 115 undef, tm.getD 116 undef, tm.getD 117 undef, tm.getD 118 undef, tm.getD 119 undef, tm.getD 120 undef, tm.getD 121 undef, tm.getD 122 undef, tm.getD 123 undef, tm.getD 124 undef, tm.getD 125 undef, tm.getD 126 undef, tm.getD 127 undef, tm.getD 128 undef, tm.getD 129 undef, tm.getD 130 undef, tm.getD 131 undef, tm.getD 132 undef, tm.getD 133 undef, tm.getD 134 undef, tm.getD 135 undef, tm.getD 136 undef, tm.getD 137 undef, tm.getD 138 undef, tm.getD 139 undef, tm.getD 140 undef, tm.getD 141 undef, tm.getD 142 undef, tm.getD 143 undef, tm.getD 144 undef, tm.getD 145 undef, tm.getD 146 undef, tm.getD 147 undef, tm.getD 148 undef, tm.getD 149 undef, tm.getD 150 undef, tm.getD 151 undef, tm.getD 152 undef, tm.getD 153 undef, tm.getD 154 undef, tm.getD 155 undef, tm.getD 156 undef, tm.getD 157 undef, tm.getD 158 undef, tm.getD 159 undef, tm.getD 160 undef, tm.getD 161 undef, tm.getD 162 undef, tm.getD 163 undef, tm.getD 164 undef, tm.getD 165 undef, tm.getD 166 undef, tm.getD 167 undef, tm.getD 168 undef, tm.getD 169 undef, tm.getD 170 undef, tm.getD 171 undef, tm.getD 172 undef, tm.getD 173 undef, tm.getD 174 undef, tm.getD 175 undef, tm.getD 176 undef, tm.getD 177 undef, tm.getD 178 undef, tm.getD 179 undef, tm.getD 180 undef, tm.getD 181 undef, tm.getD 182 undef, tm.getD 183 undef, tm.getD 184 undef, tm.getD 185 undef, tm.getD 186 undef, tm.getD 187 undef, tm.getD 188 undef, tm.getD 189 undef, tm.getD 190 undef, tm.getD 191 undef, tm.getD 192 undef, tm.getD 193 undef, tm.getD 194 undef, tm.getD 195 undef, tm.getD 196 undef, tm.getD 197 undef, tm.getD 198 undef, tm.getD 199 undef, tm.getD 200 undef, tm.getD 201 undef, tm.getD 202 undef, tm.getD 203 undef, tm.getD 204 undef, tm.getD 205 undef, tm.getD 206 undef, tm.getD 207 undef, tm.getD 208 undef, tm.getD 209 undef, tm.getD 210 undef, tm.getD 211 undef, tm.getD 212 undef, tm.getD 213 undef, tm.getD 214 undef, tm.getD 215 undef, tm.getD 216 undef, tm.getD 217 undef, tm.getD 218 undef, tm.getD 219 undef] := e
      simp only at s1 s2 s3 s4 s8 s9 s10 s11 s12 s13 s14 s15 s16 s17 s177 hdf
      rw [s1, s2, s3, s4, s8, s9, s10, s11, s12, s13, s14, s15, s16, s17, s177] at e
      subst hdf
      clear s1 s2 s3 s4 s8 s9 s10 s11 s12 s13 s14 s15 s16 s17 s177 hn
      generalize tm.getD 0 undef = u0 at e
      generalize tm.getD 5 undef = u5 at e
      generalize tm.getD 6 undef = u6 at e
      generalize tm.getD 7 undef = u7 at e
      generalize tm.getD 18 undef = u18 at e
      generalize tm.getD 19 undef = u19 at e
      generalize tm.getD 20 undef = u20 at e
      generalize tm.getD 21 undef = u21 at e
      generalize tm.getD 22 undef = u22 at e
      generalize tm.getD 23 undef = u23 at e
      generalize tm.getD 24 undef = u24 at e
      generalize tm.getD 25 undef = u25 at e
      generalize tm.getD 26 undef = u26 at e
      generalize tm.getD 27 undef = u27 at e
      generalize tm.getD 28 undef = u28 at e
      generalize tm.getD 29 undef = u29 at e
      generalize tm.getD 30 undef = u30 at e
      generalize tm.getD 31 undef = u31 at e
      generalize tm.getD 32 undef = u32 at e
      generalize tm.getD 33 undef = u33 at e
      generalize tm.getD 34 undef = u34 at e
      generalize tm.getD 35 undef = u35 at e
      generalize tm.getD 36 undef = u36 at e
      generalize tm.getD 37 undef = u37 at e
      generalize tm.getD 38 undef = u38 at e
      generalize tm.getD 39 undef = u39 at e
      generalize tm.getD 40 undef = u40 at e
      generalize tm.getD 41 undef = u41 at e
      generalize tm.getD 42 undef = u42 at e
      generalize tm.getD 43 undef = u43 at e
      generalize tm.getD 44 undef = u44 at e
      generalize tm.getD 45 undef = u45 at e
      generalize tm.getD 46 undef = u46 at e
      generalize tm.getD 47 undef = u47 at e
      generalize tm.getD 48 undef = u48 at e
      generalize tm.getD 49 undef = u49 at e
      generalize tm.getD 50 undef = u50 at e
      generalize tm.getD 51 undef = u51 at e
      generalize tm.getD 52 undef = u52 at e
      generalize tm.getD 53 undef = u53 at e
      generalize tm.getD 54 undef = u54 at e
      generalize tm.getD 55 undef = u55 at e
      generalize tm.getD 56 undef = u56 at e
      generalize tm.getD 57 undef = u57 at e
      generalize tm.getD 58 undef = u58 at e
      generalize tm.getD 59 undef = u59 at e
      generalize tm.getD 60 undef = u60 at e
      generalize tm.getD 61 undef = u61 at e
      generalize tm.getD 62 undef = u62 at e
      generalize tm.getD 63 undef = u63 at e
      generalize tm.getD 64 undef = u64 at e
      generalize tm.getD 65 undef = u65 at e
      generalize tm.getD 66 undef = u66 at e
      generalize tm.getD 67 undef = u67 at e
      generalize tm.getD 68 undef = u68 at e
      generalize tm.getD 69 undef = u69 at e
      generalize tm.getD 70 undef = u70 at e
      generalize tm.getD 71 undef = u71 at e
      generalize tm.getD 72 undef = u72 at e
      generalize tm.getD 73 undef = u73 at e
      generalize tm.getD 74 undef = u74 at e
      generalize tm.getD 75 undef = u75 at e
      generalize tm.getD 76 undef = u76 at e
      generalize tm.getD 77 undef = u77 at e
      generalize tm.getD 78 undef = u78 at e
      generalize tm.getD 79 undef = u79 at e
      generalize tm.getD 80 undef = u80 at e
      generalize tm.getD 81 undef = u81 at e
      generalize tm.getD 82 undef = u82 at e
      generalize tm.getD 83 undef = u83 at e
      generalize tm.getD 84 undef = u84 at e
      generalize tm.getD 85 undef = u85 at e
      generalize tm.getD 86 undef = u86 at e
      generalize tm.getD 87 undef = u87 at e
      generalize tm.getD 88 undef = u88 at e
      generalize tm.getD 89 undef = u89 at e
      generalize tm.getD 90 undef = u90 at e
      generalize tm.getD 91 undef = u91 at e
      generalize tm.getD 92 undef = u92 at e
      generalize tm.getD 93 undef = u93 at e
      generalize tm.getD 94 undef = u94 at e
      generalize tm.getD 95 undef = u95 at e
      generalize tm.getD 96 undef = u96 at e
      generalize tm.getD 97 undef = u97 at e
      generalize tm.getD 98 undef = u98 at e
      generalize tm.getD 99 undef = u99 at e
      generalize tm.getD 100 undef = u100 at e
      generalize tm.getD 101 undef = u101 at e
      generalize tm.getD 102 undef = u102 at e
      generalize tm.getD 103 undef = u103 at e
      generalize tm.getD 104 undef = u104 at e
      generalize tm.getD 105 undef = u105 at e
      generalize tm.getD 106 undef = u106 at e
      generalize tm.getD 107 undef = u107 at e
      generalize tm.getD 108 undef = u108 at e
      generalize tm.getD 109 undef = u109 at e
      generalize tm.getD 110 undef = u110 at e
      generalize tm.getD 111 undef = u111 at e
      generalize tm.getD 112 undef = u112 at e
      generalize tm.getD 113 undef = u113 at e
      generalize tm.getD 114 undef = u114 at e
      generalize tm.getD 115 undef = u115 at e
      generalize tm.getD 116 undef = u116 at e
      generalize tm.getD 117 undef = u117 at e
      generalize tm.getD 118 undef = u118 at e
      generalize tm.getD 119 undef = u119 at e
      generalize tm.getD 120 undef = u120 at e
      generalize tm.getD 121 undef = u121 at e
      generalize tm.getD 122 undef = u122 at e
      generalize tm.getD 123 undef = u123 at e
      generalize tm.getD 124 undef = u124 at e
      generalize tm.getD 125 undef = u125 at e
      generalize tm.getD 126 undef = u126 at e
      generalize tm.getD 127 undef = u127 at e
      generalize tm.getD 128 undef = u128 at e
      generalize tm.getD 129 undef = u129 at e
      generalize tm.getD 130 undef = u130 at e
      generalize tm.getD 131 undef = u131 at e
      generalize tm.getD 132 undef = u132 at e
      generalize tm.getD 133 undef = u133 at e
      generalize tm.getD 134 undef = u134 at e
      generalize tm.getD 135 undef = u135 at e
      generalize tm.getD 136 undef = u136 at e
      generalize tm.getD 137 undef = u137 at e
      generalize tm.getD 138 undef = u138 at e
      generalize tm.getD 139 undef = u139 at e
      generalize tm.getD 140 undef = u140 at e
      generalize tm.getD 141 undef = u141 at e
      generalize tm.getD 142 undef = u142 at e
      generalize tm.getD 143 undef = u143 at e
      generalize tm.getD 144 undef = u144 at e
      generalize tm.getD 145 undef = u145 at e
      generalize tm.getD 146 undef = u146 at e
      generalize tm.getD 147 undef = u147 at e
      generalize tm.getD 148 undef = u148 at e
      generalize tm.getD 149 undef = u149 at e
      generalize tm.getD 150 undef = u150 at e
      generalize tm.getD 151 undef = u151 at e
      generalize tm.getD 152 undef = u152 at e
      generalize tm.getD 153 undef = u153 at e
      generalize tm.getD 154 undef = u154 at e
      generalize tm.getD 155 undef = u155 at e
      generalize tm.getD 156 undef = u156 at e
      generalize tm.getD 157 undef = u157 at e
      generalize tm.getD 158 undef = u158 at e
      generalize tm.getD 159 undef = u159 at e
      generalize tm.getD 160 undef = u160 at e
      generalize tm.getD 161 undef = u161 at e
      generalize tm.getD 162 undef = u162 at e
      generalize tm.getD 163 undef = u163 at e
      generalize tm.getD 164 undef = u164 at e
      generalize tm.getD 165 undef = u165 at e
      generalize tm.getD 166 undef = u166 at e
      generalize tm.getD 167 undef = u167 at e
      generalize tm.getD 168 undef = u168 at e
      generalize tm.getD 169 undef = u169 at e
      generalize tm.getD 170 undef = u170 at e
      generalize tm.getD 171 undef = u171 at e
      generalize tm.getD 172 undef = u172 at e
      generalize tm.getD 173 undef = u173 at e
      generalize tm.getD 174 undef = u174 at e
      generalize tm.getD 175 undef = u175 at e
      generalize tm.getD 176 undef = u176 at e
      generalize tm.getD 178 undef = u178 at e
      generalize tm.getD 179 undef = u179 at e
      generalize tm.getD 180 undef = u180 at e
      generalize tm.getD 181 undef = u181 at e
      generalize tm.getD 182 undef = u182 at e
      generalize tm.getD 183 undef = u183 at e
      generalize tm.getD 184 undef = u184 at e
      generalize tm.getD 185 undef = u185 at e
      generalize tm.getD 186 undef = u186 at e
      generalize tm.getD 187 undef = u187 at e
      generalize tm.getD 188 undef = u188 at e
      generalize tm.getD 189 undef = u189 at e
      generalize tm.getD 190 undef = u190 at e
      generalize tm.getD 191 undef = u191 at e
      generalize tm.getD 192 undef = u192 at e
      generalize tm.getD 193 undef = u193 at e
      generalize tm.getD 194 undef = u194 at e
      generalize tm.getD 195 undef = u195 at e
      generalize tm.getD 196 undef = u196 at e
      generalize tm.getD 197 undef = u197 at e
      generalize tm.getD 198 undef = u198 at e
      generalize tm.getD 199 undef = u199 at e
      generalize tm.getD 200 undef = u200 at e
      generalize tm.getD 201 undef = u201 at e
      generalize tm.getD 202 undef = u202 at e
      generalize tm.getD 203 undef = u203 at e
      generalize tm.getD 204 undef = u204 at e
      generalize tm.getD 205 undef = u205 at e
      generalize tm.getD 206 undef = u206 at e
      generalize tm.getD 207 undef = u207 at e
      generalize tm.getD 208 undef = u208 at e
      generalize tm.getD 209 undef = u209 at e
      generalize tm.getD 210 undef = u210 at e
      generalize tm.getD 211 undef = u211 at e
      generalize tm.getD 212 undef = u212 at e
      generalize tm.getD 213 undef = u213 at e
      generalize tm.getD 214 undef = u214 at e
      generalize tm.getD 215 undef = u215 at e
      generalize tm.getD 216 undef = u216 at e
      generalize tm.getD 217 undef = u217 at e
      generalize tm.getD 218 undef = u218 at e
      generalize tm.getD 219 undef = u219 at e
      subst e
      have T0_w23 := Lib.hid (T0_w22.out.below hqw23)
      have T_w23 := Lib.hid (T_w22.out.below hqw23)
      have T1_w23 := Lib.hid (T1_w22.out.below hqw23)
      have B1_w23 := Lib.hid (B1_w22.out.below hqw23)
      have T2_w23 := Lib.hid (T2_w22.out.below hqw23)
      have B2_w23 := Lib.hid (B2_w22.out.below hqw23)
      have T3_w23 := Lib.hid (T3_w22.out.below hqw23)
      have B3_w23 := Lib.hid (B3_w22.out.below hqw23)
      have T4_w23 := Lib.hid (T4_w22.out.below hqw23)
      have B4_w23 := Lib.hid (B4_w22.out.below hqw23)
      have None_w23 := Lib.hid (None_w22.out.below hqw23)
      have z0_w23 : w.heap.size < w23.heap.size := Nat.lt_of_lt_of_le z0_w22 hqw23.size
      have z1_w23 : w10.heap.size < w23.heap.size := Nat.lt_of_lt_of_le z1_w22 hqw23.size
      have z2_w23 : w12.heap.size < w23.heap.size := Nat.lt_of_lt_of_le z2_w22 hqw23.size
      have z3_w23 : w14.heap.size < w23.heap.size := Nat.lt_of_lt_of_le z3_w22 hqw23.size
      have z4_w23 : w16.heap.size < w23.heap.size := Nat.lt_of_lt_of_le z4_w22 hqw23.size
      have z5_w23 : w17.heap.size < w23.heap.size := Nat.lt_of_lt_of_le z5_w22 hqw23.size
      have B_w23 := bt B_w22 hqw23
      clear T0_w22 T_w22 T1_w22 B1_w22 T2_w22 B2_w22 T3_w22 B3_w22 T4_w22 B4_w22 None_w22 z0_w22 z1_w22 z2_w22 z3_w22 z4_w22 z5_w22 B_w22 hqw23
      simp only [Exit.then]
      clear o_B2_0 o_B2_1 o_B2_2 o_T0_0 o_T0_1 o_T0_2
      go_wp2_with fail
      go_at_call 21
      (with_reducible refine (hPort.out _).mono ?_)
      rintro e w' ⟨rfl, rfl⟩
      have hX2 : (rPutO bs s ⟨a, port, 0, true⟩ = none ∧ [] = bx ∧ 0 = sx ∧ 0 = gx ∧ 5 = ex) ∨ (rPutO bs s ⟨a, port, 0, true⟩ = some bx ∧ Small bx ∧ s = sx ∧ ag = gx ∧ 0 = ex) := by
        rcases hX.out with ⟨h1, _⟩ | ⟨_, h⟩ | ⟨_, h⟩
        · rw [hm.out, hpo.out] at h1; cases h1
        · exact .inl h
        · exact .inr h
      clear hX
      rcases hX2 with ⟨ho, rfl, rfl, rfl, rfl⟩ | ⟨ho, hsx, rfl, rfl, rfl⟩
      · replace ho := Lib.hid ho
        have o_T0_0 := T0_w23.out.c (i := 0) rfl
        have o_T0_1 := T0_w23.out.c (i := 1) rfl
        have o_T0_2 := T0_w23.out.c (i := 2) rfl
        go_wp2_with fail
        clear o_T0_0 o_T0_1 o_T0_2
        go_at_call 31
        (with_reducible refine (r_pin_no s ag a port T_w23.out hsm.out hbl.out hnb.out hm.out ho.out).mono ?_)
        rintro e w24 ⟨A5, n5, c5, rfl, T5, hb24⟩
        have T0_w24 := Lib.hid (T0_w23.out.below hb24)
        have T_w24 := Lib.hid (T_w23.out.below hb24)
        have T1_w24 := Lib.hid (T1_w23.out.below hb24)
        have B1_w24 := Lib.hid (B1_w23.out.below hb24)
        have T2_w24 := Lib.hid (T2_w23.out.below hb24)
        have B2_w24 := Lib.hid (B2_w23.out.below hb24)
        have T3_w24 := Lib.hid (T3_w23.out.below hb24)
        have B3_w24 := Lib.hid (B3_w23.out.below hb24)
        have T4_w24 := Lib.hid (T4_w23.out.below hb24)
        have B4_w24 := Lib.hid (B4_w23.out.below hb24)
        have None_w24 := Lib.hid (None_w23.out.below hb24)
        have T5_w24 := Lib.hid (T5)
        have z0_w24 : w.heap.size < w24.heap.size := Nat.lt_of_lt_of_le z0_w23 hb24.size
        have z1_w24 : w10.heap.size < w24.heap.size := Nat.lt_of_lt_of_le z1_w23 hb24.size
        have z2_w24 : w12.heap.size < w24.heap.size := Nat.lt_of_lt_of_le z2_w23 hb24.size
        have z3_w24 : w14.heap.size < w24.heap.size := Nat.lt_of_lt_of_le z3_w23 hb24.size
        have z4_w24 : w16.heap.size < w24.heap.size := Nat.lt_of_lt_of_le z4_w23 hb24.size
        have z5_w24 : w17.heap.size < w24.heap.size := Nat.lt_of_lt_of_le z5_w23 hb24.size
        have B_w24 := bt B_w23 hb24
        clear T0_w23 T_w23 T1_w23 B1_w23 T2_w23 B2_w23 T3_w23 B3_w23 T4_w23 B4_w23 None_w23 z0_w23 z1_w23 z2_w23 z3_w23 z4_w23 z5_w23 B_w23 hb24
        clear T5
        go_wp2_with fail
        obtain ⟨w25, hw25⟩ : ∃ W, W = w24.alloc (.cells #[.slice A5 n5 c5, .int .i64 s, .int .i64 ag] 24) := ⟨_, rfl⟩
        have bw25 : Below w24.heap.size w24 w25 := by rw [hw25]; exact (Below.refl _ _).alloc (Nat.le_refl _) _
        have Xw25 : Bx w25 w24.heap.size 24 #[.slice A5 n5 c5, .int .i64 s, .int .i64 ag] := by rw [hw25]; exact Bx.new _ _ _ rfl
        rw [← hw25]
        clear hw25
        have T0_w25 := Lib.hid (T0_w24.out.below bw25)
        have T_w25 := Lib.hid (T_w24.out.below bw25)
        have T1_w25 := Lib.hid (T1_w24.out.below bw25)
        have B1_w25 := Lib.hid (B1_w24.out.below bw25)
        have T2_w25 := Lib.hid (T2_w24.out.below bw25)
        have B2_w25 := Lib.hid (B2_w24.out.below bw25)
        have T3_w25 := Lib.hid (T3_w24.out.below bw25)
        have B3_w25 := Lib.hid (B3_w24.out.below bw25)
        have T4_w25 := Lib.hid (T4_w24.out.below bw25)
        have B4_w25 := Lib.hid (B4_w24.out.below bw25)
        have None_w25 := Lib.hid (None_w24.out.below bw25)
        have T5_w25 := Lib.hid (T5_w24.out.below bw25)
        have W5_w25 := Lib.hid (Xw25)
        have z0_w25 : w.heap.size < w25.heap.size := Nat.lt_of_lt_of_le z0_w24 bw25.size
        have z1_w25 : w10.heap.size < w25.heap.size := Nat.lt_of_lt_of_le z1_w24 bw25.size
        have z2_w25 : w12.heap.size < w25.heap.size := Nat.lt_of_lt_of_le z2_w24 bw25.size
        have z3_w25 : w14.heap.size < w25.heap.size := Nat.lt_of_lt_of_le z3_w24 bw25.size
        have z4_w25 : w16.heap.size < w25.heap.size := Nat.lt_of_lt_of_le z4_w24 bw25.size
        have z5_w25 : w17.heap.size < w25.heap.size := Nat.lt_of_lt_of_le z5_w24 bw25.size
        have B_w25 := bt B_w24 bw25
        clear T0_w24 T_w24 T1_w24 B1_w24 T2_w24 B2_w24 T3_w24 B3_w24 T4_w24 B4_w24 None_w24 T5_w24 z0_w24 z1_w24 z2_w24 z3_w24 z4_w24 z5_w24 B_w24 bw25
        have z6_w25 : w24.heap.size < w25.heap.size := Xw25.lt
        clear Xw25
        go_at_call 14
        (with_reducible refine (alive_any _).mono ?_)
        rintro e w26 ⟨rfl, hb26⟩
        have T0_w26 := Lib.hid (T0_w25.out.below hb26)
        have T_w26 := Lib.hid (T_w25.out.below hb26)
        have T1_w26 := Lib.hid (T1_w25.out.below hb26)
        have B1_w26 := Lib.hid (B1_w25.out.below hb26)
        have T2_w26 := Lib.hid (T2_w25.out.below hb26)
        have B2_w26 := Lib.hid (B2_w25.out.below hb26)
        have T3_w26 := Lib.hid (T3_w25.out.below hb26)
        have B3_w26 := Lib.hid (B3_w25.out.below hb26)
        have T4_w26 := Lib.hid (T4_w25.out.below hb26)
        have B4_w26 := Lib.hid (B4_w25.out.below hb26)
        have None_w26 := Lib.hid (None_w25.out.below hb26)
        have T5_w26 := Lib.hid (T5_w25.out.below hb26)
        have W5_w26 := Lib.hid (W5_w25.out.below hb26)
        have z0_w26 : w.heap.size < w26.heap.size := Nat.lt_of_lt_of_le z0_w25 hb26.size
        have z1_w26 : w10.heap.size < w26.heap.size := Nat.lt_of_lt_of_le z1_w25 hb26.size
        have z2_w26 : w12.heap.size < w26.heap.size := Nat.lt_of_lt_of_le z2_w25 hb26.size
        have z3_w26 : w14.heap.size < w26.heap.size := Nat.lt_of_lt_of_le z3_w25 hb26.size
        have z4_w26 : w16.heap.size < w26.heap.size := Nat.lt_of_lt_of_le z4_w25 hb26.size
        have z5_w26 : w17.heap.size < w26.heap.size := Nat.lt_of_lt_of_le z5_w25 hb26.size
        have z6_w26 : w24.heap.size < w26.heap.size := Nat.lt_of_lt_of_le z6_w25 hb26.size
        have B_w26 := bt B_w25 hb26
        clear T0_w25 T_w25 T1_w25 B1_w25 T2_w25 B2_w25 T3_w25 B3_w25 T4_w25 B4_w25 None_w25 T5_w25 W5_w25 z0_w25 z1_w25 z2_w25 z3_w25 z4_w25 z5_w25 z6_w25 B_w25 hb26
        have o_B1_0 := B1_w26.out.c (i := 0) rfl
        have o_B1_1 := B1_w26.out.c (i := 1) rfl
        have o_B1_2 := B1_w26.out.c (i := 2) rfl
        have o_None_0 := None_w26.out.c (i := 0) rfl
        have o_None_1 := None_w26.out.c (i := 1) rfl
        have o_None_2 := None_w26.out.c (i := 2) rfl
        go_wp2_with fail
        clear o_B1_0 o_B1_1 o_B1_2 o_None_0 o_None_1 o_None_2
        go_at_call 16
        (with_reducible refine (r_same 0 0 T1_w26.out.tab (TabS.empty _) small_nil').mono ?_)
        rintro e w27 ⟨rfl, hb27⟩
        have T0_w27 := Lib.hid (T0_w26.out.below hb27)
        have T_w27 := Lib.hid (T_w26.out.below hb27)
        have T1_w27 := Lib.hid (T1_w26.out.below hb27)
        have B1_w27 := Lib.hid (B1_w26.out.below hb27)
        have T2_w27 := Lib.hid (T2_w26.out.below hb27)
        have B2_w27 := Lib.hid (B2_w26.out.below hb27)
        have T3_w27 := Lib.hid (T3_w26.out.below hb27)
        have B3_w27 := Lib.hid (B3_w26.out.below hb27)
        have T4_w27 := Lib.hid (T4_w26.out.below hb27)
        have B4_w27 := Lib.hid (B4_w26.out.below hb27)
        have None_w27 := Lib.hid (None_w26.out.below hb27)
        have T5_w27 := Lib.hid (T5_w26.out.below hb27)
        have W5_w27 := Lib.hid (W5_w26.out.below hb27)
        have z0_w27 : w.heap.size < w27.heap.size := Nat.lt_of_lt_of_le z0_w26 hb27.size
        have z1_w27 : w10.heap.size < w27.heap.size := Nat.lt_of_lt_of_le z1_w26 hb27.size
        have z2_w27 : w12.heap.size < w27.heap.size := Nat.lt_of_lt_of_le z2_w26 hb27.size
        have z3_w27 : w14.heap.size < w27.heap.size := Nat.lt_of_lt_of_le z3_w26 hb27.size
        have z4_w27 : w16.heap.size < w27.heap.size := Nat.lt_of_lt_of_le z4_w26 hb27.size
        have z5_w27 : w17.heap.size < w27.heap.size := Nat.lt_of_lt_of_le z5_w26 hb27.size
        have z6_w27 : w24.heap.size < w27.heap.size := Nat.lt_of_lt_of_le z6_w26 hb27.size
        have B_w27 := bt B_w26 hb27
        clear T0_w26 T_w26 T1_w26 B1_w26 T2_w26 B2_w26 T3_w26 B3_w26 T4_w26 B4_w26 None_w26 T5_w26 W5_w26 z0_w26 z1_w26 z2_w26 z3_w26 z4_w26 z5_w26 z6_w26 B_w26 hb27
        go_wp2_with fail
        go_ret
        exact ⟨rfl, B_w27⟩
      · replace ho := Lib.hid ho
        replace hsx := Lib.hid hsx
        have o_T0_0 := T0_w23.out.c (i := 0) rfl
        have o_T0_1 := T0_w23.out.c (i := 1) rfl
        have o_T0_2 := T0_w23.out.c (i := 2) rfl
        go_wp2_with fail
        clear o_T0_0 o_T0_1 o_T0_2
        go_at_call 31
        (with_reducible refine (r_pin_yes s ag a port T_w23.out hsm.out hbl.out hnb.out hm.out ho.out).mono ?_)
        rintro e w24 ⟨A5, n5, c5, rfl, T5, hb24⟩
        have T0_w24 := Lib.hid (T0_w23.out.below hb24)
        have T_w24 := Lib.hid (T_w23.out.below hb24)
        have T1_w24 := Lib.hid (T1_w23.out.below hb24)
        have B1_w24 := Lib.hid (B1_w23.out.below hb24)
        have T2_w24 := Lib.hid (T2_w23.out.below hb24)
        have B2_w24 := Lib.hid (B2_w23.out.below hb24)
        have T3_w24 := Lib.hid (T3_w23.out.below hb24)
        have B3_w24 := Lib.hid (B3_w23.out.below hb24)
        have T4_w24 := Lib.hid (T4_w23.out.below hb24)
        have B4_w24 := Lib.hid (B4_w23.out.below hb24)
        have None_w24 := Lib.hid (None_w23.out.below hb24)
        have T5_w24 := Lib.hid (T5)
        have z0_w24 : w.heap.size < w24.heap.size := Nat.lt_of_lt_of_le z0_w23 hb24.size
        have z1_w24 : w10.heap.size < w24.heap.size := Nat.lt_of_lt_of_le z1_w23 hb24.size
        have z2_w24 : w12.heap.size < w24.heap.size := Nat.lt_of_lt_of_le z2_w23 hb24.size
        have z3_w24 : w14.heap.size < w24.heap.size := Nat.lt_of_lt_of_le z3_w23 hb24.size
        have z4_w24 : w16.heap.size < w24.heap.size := Nat.lt_of_lt_of_le z4_w23 hb24.size
        have z5_w24 : w17.heap.size < w24.heap.size := Nat.lt_of_lt_of_le z5_w23 hb24.size
        have B_w24 := bt B_w23 hb24
        clear T0_w23 T_w23 T1_w23 B1_w23 T2_w23 B2_w23 T3_w23 B3_w23 T4_w23 B4_w23 None_w23 z0_w23 z1_w23 z2_w23 z3_w23 z4_w23 z5_w23 B_w23 hb24
        clear T5
        go_wp2_with fail
        obtain ⟨w25, hw25⟩ : ∃ W, W = w24.alloc (.cells #[.slice A5 n5 c5, .int .i64 s, .int .i64 ag] 24) := ⟨_, rfl⟩
        have bw25 : Below w24.heap.size w24 w25 := by rw [hw25]; exact (Below.refl _ _).alloc (Nat.le_refl _) _
        have Xw25 : Bx w25 w24.heap.size 24 #[.slice A5 n5 c5, .int .i64 s, .int .i64 ag] := by rw [hw25]; exact Bx.new _ _ _ rfl
        rw [← hw25]
        clear hw25
        have T0_w25 := Lib.hid (T0_w24.out.below bw25)
        have T_w25 := Lib.hid (T_w24.out.below bw25)
        have T1_w25 := Lib.hid (T1_w24.out.below bw25)
        have B1_w25 := Lib.hid (B1_w24.out.below bw25)
        have T2_w25 := Lib.hid (T2_w24.out.below bw25)
        have B2_w25 := Lib.hid (B2_w24.out.below bw25)
        have T3_w25 := Lib.hid (T3_w24.out.below bw25)
        have B3_w25 := Lib.hid (B3_w24.out.below bw25)
        have T4_w25 := Lib.hid (T4_w24.out.below bw25)
        have B4_w25 := Lib.hid (B4_w24.out.below bw25)
        have None_w25 := Lib.hid (None_w24.out.below bw25)
        have T5_w25 := Lib.hid (T5_w24.out.below bw25)
        have W5_w25 := Lib.hid (Xw25)
        have z0_w25 : w.heap.size < w25.heap.size := Nat.lt_of_lt_of_le z0_w24 bw25.size
        have z1_w25 : w10.heap.size < w25.heap.size := Nat.lt_of_lt_of_le z1_w24 bw25.size
        have z2_w25 : w12.heap.size < w25.heap.size := Nat.lt_of_lt_of_le z2_w24 bw25.size
        have z3_w25 : w14.heap.size < w25.heap.size := Nat.lt_of_lt_of_le z3_w24 bw25.size
        have z4_w25 : w16.heap.size < w25.heap.size := Nat.lt_of_lt_of_le z4_w24 bw25.size
        have z5_w25 : w17.heap.size < w25.heap.size := Nat.lt_of_lt_of_le z5_w24 bw25.size
        have B_w25 := bt B_w24 bw25
        clear T0_w24 T_w24 T1_w24 B1_w24 T2_w24 B2_w24 T3_w24 B3_w24 T4_w24 B4_w24 None_w24 T5_w24 z0_w24 z1_w24 z2_w24 z3_w24 z4_w24 z5_w24 B_w24 bw25
        have z6_w25 : w24.heap.size < w25.heap.size := Xw25.lt
        clear Xw25
        go_at_call 14
        (with_reducible refine (alive_any _).mono ?_)
        rintro e w26 ⟨rfl, hb26⟩
        have T0_w26 := Lib.hid (T0_w25.out.below hb26)
        have T_w26 := Lib.hid (T_w25.out.below hb26)
        have T1_w26 := Lib.hid (T1_w25.out.below hb26)
        have B1_w26 := Lib.hid (B1_w25.out.below hb26)
        have T2_w26 := Lib.hid (T2_w25.out.below hb26)
        have B2_w26 := Lib.hid (B2_w25.out.below hb26)
        have T3_w26 := Lib.hid (T3_w25.out.below hb26)
        have B3_w26 := Lib.hid (B3_w25.out.below hb26)
        have T4_w26 := Lib.hid (T4_w25.out.below hb26)
        have B4_w26 := Lib.hid (B4_w25.out.below hb26)
        have None_w26 := Lib.hid (None_w25.out.below hb26)
        have T5_w26 := Lib.hid (T5_w25.out.below hb26)
        have W5_w26 := Lib.hid (W5_w25.out.below hb26)
        have z0_w26 : w.heap.size < w26.heap.size := Nat.lt_of_lt_of_le z0_w25 hb26.size
        have z1_w26 : w10.heap.size < w26.heap.size := Nat.lt_of_lt_of_le z1_w25 hb26.size
        have z2_w26 : w12.heap.size < w26.heap.size := Nat.lt_of_lt_of_le z2_w25 hb26.size
        have z3_w26 : w14.heap.size < w26.heap.size := Nat.lt_of_lt_of_le z3_w25 hb26.size
        have z4_w26 : w16.heap.size < w26.heap.size := Nat.lt_of_lt_of_le z4_w25 hb26.size
        have z5_w26 : w17.heap.size < w26.heap.size := Nat.lt_of_lt_of_le z5_w25 hb26.size
        have z6_w26 : w24.heap.size < w26.heap.size := Nat.lt_of_lt_of_le z6_w25 hb26.size
        have B_w26 := bt B_w25 hb26
        clear T0_w25 T_w25 T1_w25 B1_w25 T2_w25 B2_w25 T3_w25 B3_w25 T4_w25 B4_w25 None_w25 T5_w25 W5_w25 z0_w25 z1_w25 z2_w25 z3_w25 z4_w25 z5_w25 z6_w25 B_w25 hb26
        have o_B1_0 := B1_w26.out.c (i := 0) rfl
        have o_B1_1 := B1_w26.out.c (i := 1) rfl
        have o_B1_2 := B1_w26.out.c (i := 2) rfl
        have o_W5_0 := W5_w26.out.c (i := 0) rfl
        have o_W5_1 := W5_w26.out.c (i := 1) rfl
        have o_W5_2 := W5_w26.out.c (i := 2) rfl
        go_wp2_with fail
        clear o_B1_0 o_B1_1 o_B1_2 o_W5_0 o_W5_1 o_W5_2
        go_at_call 16
        (with_reducible refine (r_same s ag T1_w26.out.tab T5_w26.out hsx.out).mono ?_)
        rintro e w27 ⟨rfl, hb27⟩
        have T0_w27 := Lib.hid (T0_w26.out.below hb27)
        have T_w27 := Lib.hid (T_w26.out.below hb27)
        have T1_w27 := Lib.hid (T1_w26.out.below hb27)
        have B1_w27 := Lib.hid (B1_w26.out.below hb27)
        have T2_w27 := Lib.hid (T2_w26.out.below hb27)
        have B2_w27 := Lib.hid (B2_w26.out.below hb27)
        have T3_w27 := Lib.hid (T3_w26.out.below hb27)
        have B3_w27 := Lib.hid (B3_w26.out.below hb27)
        have T4_w27 := Lib.hid (T4_w26.out.below hb27)
        have B4_w27 := Lib.hid (B4_w26.out.below hb27)
        have None_w27 := Lib.hid (None_w26.out.below hb27)
        have T5_w27 := Lib.hid (T5_w26.out.below hb27)
        have W5_w27 := Lib.hid (W5_w26.out.below hb27)
        have z0_w27 : w.heap.size < w27.heap.size := Nat.lt_of_lt_of_le z0_w26 hb27.size
        have z1_w27 : w10.heap.size < w27.heap.size := Nat.lt_of_lt_of_le z1_w26 hb27.size
        have z2_w27 : w12.heap.size < w27.heap.size := Nat.lt_of_lt_of_le z2_w26 hb27.size
        have z3_w27 : w14.heap.size < w27.heap.size := Nat.lt_of_lt_of_le z3_w26 hb27.size
        have z4_w27 : w16.heap.size < w27.heap.size := Nat.lt_of_lt_of_le z4_w26 hb27.size
        have z5_w27 : w17.heap.size < w27.heap.size := Nat.lt_of_lt_of_le z5_w26 hb27.size
        have z6_w27 : w24.heap.size < w27.heap.size := Nat.lt_of_lt_of_le z6_w26 hb27.size
        have B_w27 := bt B_w26 hb27
        clear T0_w26 T_w26 T1_w26 B1_w26 T2_w26 B2_w26 T3_w26 B3_w26 T4_w26 B4_w26 None_w26 T5_w26 W5_w26 z0_w26 z1_w26 z2_w26 z3_w26 z4_w26 z5_w26 z6_w26 B_w26 hb27
        go_wp2_with fail
        go_ret
        exact ⟨rfl, B_w27⟩
   | false =>
    cases hp1 : (port == -1) with
    | true =>
     rw [hpo] at hPort
     obtain ⟨hbu, hsu, rfl, rfl, rfl⟩ : bs.map (keepL (flushR port)) = bu ∧ Small bu ∧ s = su ∧ ag = gu ∧ 0 = eu := by
       rcases hU.out with ⟨h1, _⟩ | ⟨_, h⟩
       · rw [hpo] at h1; rw [hp1] at h1; cases h1
       · exact h
     replace hbu := Lib.hid hbu
     replace hsu := Lib.hid hsu
     replace hpo := Lib.hid hpo
     clear hU
     have hp2 : (port != -1) = false := by unfold bne; rw [hp1]; rfl
     go_wp2_with fail
     have o_B4_0 := B4_w20.out.c (i := 0) rfl
     have o_B4_1 := B4_w20.out.c (i := 1) rfl
     have o_B4_2 := B4_w20.out.c (i := 2) rfl
     have o_T0_0 := T0_w20.out.c (i := 0) rfl
     have o_T0_1 := T0_w20.out.c (i := 1) rfl
     have o_T0_2 := T0_w20.out.c (i := 2) rfl
     refine wp_region_opsG (by kernel_rfl) (fun ix => match ix with | 0 => 124 | 1 => 125 | 2 => 126 | 3 => 127 | 4 => 128 | 5 => 129 | 6 => 130 | 7 => 131 | 8 => 132 | 9 => 133 | _ => 0) [(2, false)] (by kernel_rfl) (by kernel_rfl) (fun i v W => match i with | 0 => v = .int .i64 0 | 1 => v = .bool false | 2 => v = .bool false | 3 => v = tbv (.slice A4 n4 c4) s ag | 4 => v = tbv (.slice A n c) s ag | 5 => v = .int .i64 port | 6 => ∃ A n c, v = tbv (.slice A n c) s ag ∧ TabS W A n c bu | 7 => v = .bool true | 8 => v = .bool false | 9 => v = .bool false | _ => True) (fun i v W W' h hb => by
         match i with
         | 0 => exact h
         | 1 => exact h
         | 2 => exact h
         | 3 => exact h
         | 4 => exact h
         | 5 => exact h
         | 7 => exact h
         | 8 => exact h
         | 9 => exact h
         | 6 => (obtain ⟨A, n, c, h1, h2⟩ := h; exact ⟨A, n, c, h1, h2.below hb⟩)
         | n + 10 => exact trivial) (fun g hg v W h => by
         simp only [List.mem_singleton] at hg
         subst hg
         exact h) ?_ ?_
     refine ⟨?_, ?_, ?_, ?_, ?_, ?_, ?_, ?_, ?_, ?_, trivial⟩
     · as_aux_lemma =>
         intro a9 W2 K hb hdep hk hK
         replace hK : ∀ v w', (v = .int .i64 0) → Below W2.heap.size W2 w' → K (a9.put (some 124) v) w' := hK
         have d16 : a9.tmps.getD 16 undef = .int .i64 0 := hk 16 (by kernel_rfl)
         clear hdep hk
         go_simp
         exact hK _ _ rfl (Below.refl _ _)
     · as_aux_lemma =>
         intro a9 W2 K hb hdep hk hK
         replace hK : ∀ v w', (v = .bool false) → Below W2.heap.size W2 w' → K (a9.put (some 125) v) w' := hK
         have d124 : a9.tmps.getD 124 undef = .int .i64 0 := hdep ⟨0, .data⟩ (by simp) rfl
         clear hdep hk
         go_simp
         exact hK _ _ rfl (Below.refl _ _)
     · as_aux_lemma =>
         intro a9 W2 K hb hdep hk hK
         replace hK : ∀ v w', (v = .bool false) → Below W2.heap.size W2 w' → K (a9.put (some 126) v) w' := hK
         have d125 : a9.tmps.getD 125 undef = .bool false := hdep ⟨1, .data⟩ (by simp) rfl
         clear hdep hk
         go_simp
         exact hK _ _ rfl (Below.refl _ _)
     · as_aux_lemma =>
         intro a9 W2 K hb hdep hk hK
         replace hK : ∀ v w', (v = tbv (.slice A4 n4 c4) s ag) → Below W2.heap.size W2 w' → K (a9.put (some 127) v) w' := hK
         have d15 : a9.tmps.getD 15 undef = .pointer (some ⟨w16.heap.size, 0, none⟩) := hk 15 (by kernel_rfl)
         have t0 := (hb.cell (p := ⟨w16.heap.size, 0, none⟩) z4_w20).trans o_B4_0
         have t1 := (hb.cell (p := ⟨w16.heap.size, 1, none⟩) z4_w20).trans o_B4_1
         have t2 := (hb.cell (p := ⟨w16.heap.size, 2, none⟩) z4_w20).trans o_B4_2
         clear hdep hk
         go_simp
         exact hK _ _ rfl (Below.refl _ _)
     · as_aux_lemma =>
         intro a9 W2 K hb hdep hk hK
         replace hK : ∀ v w', (v = tbv (.slice A n c) s ag) → Below W2.heap.size W2 w' → K (a9.put (some 128) v) w' := hK
         have d4 : a9.tmps.getD 4 undef = .pointer (some ⟨w.heap.size, 0, none⟩) := hk 4 (by kernel_rfl)
         have t0 := (hb.cell (p := ⟨w.heap.size, 0, none⟩) z0_w20).trans o_T0_0
         have t1 := (hb.cell (p := ⟨w.heap.size, 1, none⟩) z0_w20).trans o_T0_1
         have t2 := (hb.cell (p := ⟨w.heap.size, 2, none⟩) z0_w20).trans o_T0_2
         clear hdep hk
         go_simp
         exact hK _ _ rfl (Below.refl _ _)
     · as_aux_lemma =>
         intro a9 W2 K hb hdep hk hK
         replace hK : ∀ v w', (v = .int .i64 port) → Below W2.heap.size W2 w' → K (a9.put (some 129) v) w' := hK
         have d2 : a9.tmps.getD 2 undef = .int .i64 port := hk 2 (by kernel_rfl)
         clear hdep hk
         go_simp
         exact hK _ _ rfl (Below.refl _ _)
     · as_aux_lemma =>
         intro a9 W2 K hb hdep hk hK
         replace hK : ∀ v w', (∃ A n c, v = tbv (.slice A n c) s ag ∧ TabS w' A n c bu) → Below W2.heap.size W2 w' → K (a9.put (some 130) v) w' := hK
         have d128 : a9.tmps.getD 128 undef = tbv (.slice A n c) s ag := hdep ⟨4, .data⟩ (by simp) rfl
         have d129 : a9.tmps.getD 129 undef = .int .i64 port := hdep ⟨5, .data⟩ (by simp) rfl
         have hcall := r_flush s ag port (T_w20.out.below hb) hsm.out hbl.out
         rw [hbu.out] at hcall
         replace hcall := Lib.hid hcall
         clear hdep hk
         have q128 : a9.tmps[128]?.getD undef = tbv (.slice A n c) s ag := by simpa [Array.getD_eq_getD_getElem?] using d128
         clear d128
         go_simp
         refine hcall.out.mono ?_
         rintro e w9 ⟨A8, n8, c8, rfl, r1, r2⟩
         exact hK _ _ ⟨A8, n8, c8, rfl, r1⟩ r2
     · as_aux_lemma =>
         intro a9 W2 K hb hdep hk hK
         replace hK : ∀ v w', (v = .bool true) → Below W2.heap.size W2 w' → K (a9.put (some 131) v) w' := hK
         have d127 : a9.tmps.getD 127 undef = tbv (.slice A4 n4 c4) s ag := hdep ⟨3, .data⟩ (by simp) rfl
         obtain ⟨A8, n8, c8, d130, r1⟩ : ∃ A n c, a9.tmps.getD 130 undef = tbv (.slice A n c) s ag ∧ TabS W2 A n c bu := hdep ⟨6, .data⟩ (by simp) rfl
         have hcall := Lib.hid (r_same s ag (T4_w20.out.below hb).tab r1 hsu.out)
         clear hdep hk
         have q127 : a9.tmps[127]?.getD undef = tbv (.slice A4 n4 c4) s ag := by simpa [Array.getD_eq_getD_getElem?] using d127
         clear d127
         have q130 : a9.tmps[130]?.getD undef = tbv (.slice A8 n8 c8) s ag := by simpa [Array.getD_eq_getD_getElem?] using d130
         clear d130
         go_simp
         refine hcall.out.mono ?_
         rintro e w9 ⟨rfl, r2⟩
         exact hK _ _ rfl r2
     · as_aux_lemma =>
         intro a9 W2 K hb hdep hk hK
         replace hK : ∀ v w', (v = .bool false) → Below W2.heap.size W2 w' → K (a9.put (some 132) v) w' := hK
         have d131 : a9.tmps.getD 131 undef = .bool true := hdep ⟨7, .data⟩ (by simp) rfl
         clear hdep hk
         go_simp
         exact hK _ _ rfl (Below.refl _ _)
     · as_aux_lemma =>
         intro a9 W2 K hb hdep hk hK
         replace hK : ∀ v w', (v = .bool false) → Below W2.heap.size W2 w' → K (a9.put (some 133) v) w' := hK
         have d126 : a9.tmps.getD 126 undef = .bool false := hdep ⟨2, .data⟩ (by simp) rfl
         have d132 : a9.tmps.getD 132 undef = .bool false := hdep ⟨8, .data⟩ (by simp) rfl
         clear hdep hk
         go_simp
         exact hK _ _ rfl (Below.refl _ _)
     intro af w21 hqw21 hsp hk hn hdf
     have hx9 : af.tmps.getD 133 undef = .bool false := hsp 9 (by decide)
     clear hsp
     have s1 : af.tmps.getD 1 undef = .int .i64 a := hk 1 (by kernel_rfl)
     have s2 : af.tmps.getD 2 undef = .int .i64 port := hk 2 (by kernel_rfl)
     have s3 : af.tmps.getD 3 undef = .int .i64 now := hk 3 (by kernel_rfl)
     have s4 : af.tmps.getD 4 undef = .pointer (some ⟨w.heap.size, 0, none⟩) := hk 4 (by kernel_rfl)
     have s8 : af.tmps.getD 8 undef = .bool false := hk 8 (by kernel_rfl)
     have s9 : af.tmps.getD 9 undef = .pointer (some ⟨w10.heap.size, 0, none⟩) := hk 9 (by kernel_rfl)
     have s10 : af.tmps.getD 10 undef = .int .i64 ex := hk 10 (by kernel_rfl)
     have s11 : af.tmps.getD 11 undef = .pointer (some ⟨w12.heap.size, 0, none⟩) := hk 11 (by kernel_rfl)
     have s12 : af.tmps.getD 12 undef = .int .i64 ey := hk 12 (by kernel_rfl)
     have s13 : af.tmps.getD 13 undef = .pointer (some ⟨w14.heap.size, 0, none⟩) := hk 13 (by kernel_rfl)
     have s14 : af.tmps.getD 14 undef = .int .i64 0 := hk 14 (by kernel_rfl)
     have s15 : af.tmps.getD 15 undef = .pointer (some ⟨w16.heap.size, 0, none⟩) := hk 15 (by kernel_rfl)
     have s16 : af.tmps.getD 16 undef = .int .i64 0 := hk 16 (by kernel_rfl)
     have s17 : af.tmps.getD 17 undef = .pointer (some ⟨w17.heap.size, 0, none⟩) := hk 17 (by kernel_rfl)
     have s133 : af.tmps.getD 133 undef = .bool false := hx9
     clear hk hx9
     obtain ⟨tm, df⟩ := af
     have e := arr_out tm 220 hn
     replace e : tm = #[tm.getD 0 undef, tm.getD 1 undef, tm.getD 2 undef, tm.getD 3 undef, tm.getD 4 undef, tm.getD 5 undef, tm.getD 6 undef, tm.getD 7 undef, tm.getD 8 undef, tm.getD 9 undef, tm.getD 10 undef, tm.getD 11 undef, tm.getD 12 undef, tm.getD 13 undef, tm.getD 14 undef, tm.getD 15 undef, tm.getD 16 undef, tm.getD 17 undef, tm.getD 18 undef, tm.getD 19 undef, tm.getD 20 undef, tm.getD 21 undef, tm.getD 22 undef, tm.getD 23 undef, tm.getD 24 undef, tm.getD 25 undef, tm.getD 26 undef, tm.getD 27 undef, tm.getD 28 undef, tm.getD 29 undef, tm.getD 30 undef, tm.getD 31 undef, tm.getD 32 undef, tm.getD 33 undef, tm.getD 34 undef, tm.getD 35 undef, tm.getD 36 undef, tm.getD 37 undef, tm.getD 38 undef, tm.getD 39 undef, tm.getD 40 undef, tm.getD 41 undef, tm.getD 42 undef, tm.getD 43 undef, tm.getD 44 undef, tm.getD 45 undef, tm.getD 46 undef, tm.getD 47 undef, tm.getD 48 undef, tm.getD 49 undef, tm.getD 50 undef, tm.getD 51 undef, tm.getD 52 undef, tm.getD 53 undef, tm.getD 54 undef, tm.getD 55 undef, tm.getD 56 undef, tm.getD 57 undef, tm.getD 58 undef, tm.getD 59 undef, tm.getD 60 undef, tm.getD 61 undef, tm.getD 62 undef, tm.getD 63 undef, tm.getD 64 undef, tm.getD 65 undef, tm.getD 66 undef, tm.getD 67 undef, tm.getD 68 undef, tm.getD 69 undef, tm.getD 70 undef, tm.getD 71 undef, tm.getD 72 undef, tm.getD 73 undef, tm.getD 74 undef, tm.getD 75 undef, tm.getD 76 undef, tm.getD 77 undef, tm.getD 78 undef, tm.getD 79 undef, tm.getD 80 undef, tm.getD 81 undef, tm.getD 82 undef, tm.getD 83 undef, tm.getD 84 undef, tm.getD 85 undef, tm.getD 86 undef, tm.getD 87 undef, tm.getD 88 undef, tm.getD 89 undef, tm.getD 90 undef, tm.getD 91 undef, tm.getD 92 undef, tm.getD 93 undef, tm.getD 94 undef, tm.getD 95 undef, tm.getD 96 undef, tm.getD 97 undef, tm.getD 98 undef, tm.getD 99 undef, tm.getD 100 undef, tm.getD 101 undef, tm.getD 102 undef, tm.getD 103 undef, tm.getD 104 undef, tm.getD 105 undef, tm.getD 106 undef, tm.getD 107 undef, tm.getD 108 undef, tm.getD 109 undef, tm.getD 110 undef, tm.getD 111 undef, tm.getD 112 undef, tm.getD 113 undef, tm.getD 114 undef, tm.getD 115 undef, tm.getD 116 undef, tm.getD 117 undef, tm.getD 118 undef, tm.getD 119 undef, tm.getD 120 undef, tm.getD 121 undef, tm.getD 122 undef, tm.getD 123 undef, tm.getD 124 undef, tm.getD 125 undef, tm.getD 126 undef, tm.getD 127 undef, tm.getD 128 undef, tm.getD 129 undef, tm.getD 130 undef, tm.getD 131 undef, tm.getD 132 undef, tm.getD 133 undef, tm.getD 134 undef, tm.getD 135 undef, tm.getD 136 undef, tm.getD 137 undef, tm.getD 138 undef, tm.getD 139 undef, tm.getD 140 undef, tm.getD 141 undef, tm.getD 142 undef, tm.getD 143 undef, tm.getD 144 undef, tm.getD 145 undef, tm.getD 146 undef, tm.getD 147 undef, tm.getD 148 undef, tm.getD 149 undef, tm.getD 150 undef, tm.getD 151 undef, tm.getD 152 undef, tm.getD 153 undef, tm.getD 154 undef, tm.getD 155 undef, tm.getD 156 undef, tm.getD 157 undef, tm.getD 158 undef, tm.getD 159 undef, tm.getD 160 undef, tm.getD 161 undef, tm.getD 162 undef, tm.getD 163 undef, tm.getD 164 undef, tm.getD 165 undef, tm.getD 166 undef, tm.getD 167 undef, tm.getD 168 undef, tm.getD 169 undef, tm.getD 170 undef, tm.getD 171 undef, tm.getD 172 undef, tm.getD 173 undef, tm.getD 174 undef, tm.getD 175 undef, tm.getD 176 undef, tm.getD 177 undef, tm.getD 178 undef, tm.getD 179 undef, tm.getD 180 undef, tm.getD 181 undef, tm.getD 182 undef, tm.getD 183 undef, tm.getD 184 undef, tm.getD 185 undef, tm.getD 186 undef, tm.getD 187 undef, tm.getD 188 undef, tm.getD 189 undef, tm.getD 190 undef, tm.getD 191 undef, tm.getD 192 undef, tm.getD 193 undef, tm.getD 194 undef, tm.getD 195 undef, tm.getD 196 undef, tm.getD 197 undef, tm.getD 198 undef, tm.getD 199 undef, tm.getD 200 undef, tm.getD 201 undef, tm.getD 202 undef, tm.getD 203 undef, tm.getD 204 undef, tm.getD 205 undef, tm.getD 206 undef, tm.getD 207 undef, tm.getD 208 undef, tm.getD 209 undef, tm.getD 210 undef, tm.getD 211 undef, tm.getD 212 undef, tm.getD 213 undef, tm.getD 214 undef, tm.getD 215 undef, tm.getD 216 undef, tm.getD 217 undef, tm.getD 218 undef, tm.getD 219 undef] := e
     simp only at s1 s2 s3 s4 s8 s9 s10 s11 s12 s13 s14 s15 s16 s17 s133 hdf
     rw [s1, s2, s3, s4, s8, s9, s10, s11, s12, s13, s14, s15, s16, s17, s133] at e
     subst hdf
     clear s1 s2 s3 s4 s8 s9 s10 s11 s12 s13 s14 s15 s16 s17 s133 hn
     generalize tm.getD 0 undef = u0 at e
     generalize tm.getD 5 undef = u5 at e
     generalize tm.getD 6 undef = u6 at e
     generalize tm.getD 7 undef = u7 at e
     generalize tm.getD 18 undef = u18 at e
     generalize tm.getD 19 undef = u19 at e
     generalize tm.getD 20 undef = u20 at e
     generalize tm.getD 21 undef = u21 at e
     generalize tm.getD 22 undef = u22 at e
     generalize tm.getD 23 undef = u23 at e
     generalize tm.getD 24 undef = u24 at e
     generalize tm.getD 25 undef = u25 at e
     generalize tm.getD 26 undef = u26 at e
     generalize tm.getD 27 undef = u27 at e
     generalize tm.getD 28 undef = u28 at e
     generalize tm.getD 29 undef = u29 at e
     generalize tm.getD 30 undef = u30 at e
     generalize tm.getD 31 undef = u31 at e
     generalize tm.getD 32 undef = u32 at e
     generalize tm.getD 33 undef = u33 at e
     generalize tm.getD 34 undef = u34 at e
     generalize tm.getD 35 undef = u35 at e
     generalize tm.getD 36 undef = u36 at e
     generalize tm.getD 37 undef = u37 at e
     generalize tm.getD 38 undef = u38 at e
     generalize tm.getD 39 undef = u39 at e
     generalize tm.getD 40 undef = u40 at e
     generalize tm.getD 41 undef = u41 at e
     generalize tm.getD 42 undef = u42 at e
     generalize tm.getD 43 undef = u43 at e
     generalize tm.getD 44 undef = u44 at e
     generalize tm.getD 45 undef = u45 at e
     generalize tm.getD 46 undef = u46 at e
     generalize tm.getD 47 undef = u47 at e
     generalize tm.getD 48 undef = u48 at e
     generalize tm.getD 49 undef = u49 at e
     generalize tm.getD 50 undef = u50 at e
     generalize tm.getD 51 undef = u51 at e
     generalize tm.getD 52 undef = u52 at e
     generalize tm.getD 53 undef = u53 at e
     generalize tm.getD 54 undef = u54 at e
     generalize tm.getD 55 undef = u55 at e
     generalize tm.getD 56 undef = u56 at e
     generalize tm.getD 57 undef = u57 at e
     generalize tm.getD 58 undef = u58 at e
     generalize tm.getD 59 undef = u59 at e
     generalize tm.getD 60 undef = u60 at e
     generalize tm.getD 61 undef = u61 at e
     generalize tm.getD 62 undef = u62 at e
     generalize tm.getD 63 undef = u63 at e
     generalize tm.getD 64 undef = u64 at e
     generalize tm.getD 65 undef = u65 at e
     generalize tm.getD 66 undef = u66 at e
     generalize tm.getD 67 undef = u67 at e
     generalize tm.getD 68 undef = u68 at e
     generalize tm.getD 69 undef = u69 at e
     generalize tm.getD 70 undef = u70 at e
     generalize tm.getD 71 undef = u71 at e
     generalize tm.getD 72 undef = u72 at e
     generalize tm.getD 73 undef = u73 at e
     generalize tm.getD 74 undef = u74 at e
     generalize tm.getD 75 undef = u75 at e
     generalize tm.getD 76 undef = u76 at e
     generalize tm.getD 77 undef = u77 at e
     generalize tm.getD 78 undef = u78 at e
     generalize tm.getD 79 undef = u79 at e
     generalize tm.getD 80 undef = u80 at e
     generalize tm.getD 81 undef = u81 at e
     generalize tm.getD 82 undef = u82 at e
     generalize tm.getD 83 undef = u83 at e
     generalize tm.getD 84 undef = u84 at e
     generalize tm.getD 85 undef = u85 at e
     generalize tm.getD 86 undef = u86 at e
     generalize tm.getD 87 undef = u87 at e
     generalize tm.getD 88 undef = u88 at e
     generalize tm.getD 89 undef = u89 at e
     generalize tm.getD 90 undef = u90 at e
     generalize tm.getD 91 undef = u91 at e
     generalize tm.getD 92 undef = u92 at e
     generalize tm.getD 93 undef = u93 at e
     generalize tm.getD 94 undef = u94 at e
     generalize tm.getD 95 undef = u95 at e
     generalize tm.getD 96 undef = u96 at e
     generalize tm.getD 97 undef = u97 at e
     generalize tm.getD 98 undef = u98 at e
     generalize tm.getD 99 undef = u99 at e
     generalize tm.getD 100 undef = u100 at e
     generalize tm.getD 101 undef = u101 at e
     generalize tm.getD 102 undef = u102 at e
     generalize tm.getD 103 undef = u103 at e
     generalize tm.getD 104 undef = u104 at e
     generalize tm.getD 105 undef = u105 at e
     generalize tm.getD 106 undef = u106 at e
     generalize tm.getD 107 undef = u107 at e
     generalize tm.getD 108 undef = u108 at e
     generalize tm.getD 109 undef = u109 at e
     generalize tm.getD 110 undef = u110 at e
     generalize tm.getD 111 undef = u111 at e
     generalize tm.getD 112 undef = u112 at e
     generalize tm.getD 113 undef = u113 at e
     generalize tm.getD 114 undef = u114 at e
     generalize tm.getD 115 undef = u115 at e
     generalize tm.getD 116 undef = u116 at e
     generalize tm.getD 117 undef = u117 at e
     generalize tm.getD 118 undef = u118 at e
     generalize tm.getD 119 undef = u119 at e
     generalize tm.getD 120 undef = u120 at e
     generalize tm.getD 121 undef = u121 at e
     generalize tm.getD 122 undef = u122 at e
     generalize tm.getD 123 undef = u123 at e
     generalize tm.getD 124 undef = u124 at e
     generalize tm.getD 125 undef = u125 at e
     generalize tm.getD 126 undef = u126 at e
     generalize tm.getD 127 undef = u127 at e
     generalize tm.getD 128 undef = u128 at e
     generalize tm.getD 129 undef = u129 at e
     generalize tm.getD 130 undef = u130 at e
     generalize tm.getD 131 undef = u131 at e
     generalize tm.getD 132 undef = u132 at e
     generalize tm.getD 134 undef = u134 at e
     generalize tm.getD 135 undef = u135 at e
     generalize tm.getD 136 undef = u136 at e
     generalize tm.getD 137 undef = u137 at e
     generalize tm.getD 138 undef = u138 at e
     generalize tm.getD 139 undef = u139 at e
     generalize tm.getD 140 undef = u140 at e
     generalize tm.getD 141 undef = u141 at e
     generalize tm.getD 142 undef = u142 at e
     generalize tm.getD 143 undef = u143 at e
     generalize tm.getD 144 undef = u144 at e
     generalize tm.getD 145 undef = u145 at e
     generalize tm.getD 146 undef = u146 at e
     generalize tm.getD 147 undef = u147 at e
     generalize tm.getD 148 undef = u148 at e
     generalize tm.getD 149 undef = u149 at e
     generalize tm.getD 150 undef = u150 at e
     generalize tm.getD 151 undef = u151 at e
     generalize tm.getD 152 undef = u152 at e
     generalize tm.getD 153 undef = u153 at e
     generalize tm.getD 154 undef = u154 at e
     generalize tm.getD 155 undef = u155 at e
     generalize tm.getD 156 undef = u156 at e
     generalize tm.getD 157 undef = u157 at e
     generalize tm.getD 158 undef = u158 at e
     generalize tm.getD 159 undef = u159 at e
     generalize tm.getD 160 undef = u160 at e
     generalize tm.getD 161 undef = u161 at e
     generalize tm.getD 162 undef = u162 at e
     generalize tm.getD 163 undef = u163 at e
     generalize tm.getD 164 undef = u164 at e
     generalize tm.getD 165 undef = u165 at e
     generalize tm.getD 166 undef = u166 at e
     generalize tm.getD 167 undef = u167 at e
     generalize tm.getD 168 undef = u168 at e
     generalize tm.getD 169 undef = u169 at e
     generalize tm.getD 170 undef = u170 at e
     generalize tm.getD 171 undef = u171 at e
     generalize tm.getD 172 undef = u172 at e
     generalize tm.getD 173 undef = u173 at e
     generalize tm.getD 174 undef = u174 at e
     generalize tm.getD 175 undef = u175 at e
     generalize tm.getD 176 undef = u176 at e
     generalize tm.getD 177 undef = u177 at e
     generalize tm.getD 178 undef = u178 at e
     generalize tm.getD 179 undef = u179 at e
     generalize tm.getD 180 undef = u180 at e
     generalize tm.getD 181 undef = u181 at e
     generalize tm.getD 182 undef = u182 at e
     generalize tm.getD 183 undef = u183 at e
     generalize tm.getD 184 undef = u184 at e
     generalize tm.getD 185 undef = u185 at e
     generalize tm.getD 186 undef = u186 at e
     generalize tm.getD 187 undef = u187 at e
     generalize tm.getD 188 undef = u188 at e
     generalize tm.getD 189 undef = u189 at e
     generalize tm.getD 190 undef = u190 at e
     generalize tm.getD 191 undef = u191 at e
     generalize tm.getD 192 undef = u192 at e
     generalize tm.getD 193 undef = u193 at e
     generalize tm.getD 194 undef = u194 at e
     generalize tm.getD 195 undef = u195 at e
     generalize tm.getD 196 undef = u196 at e
     generalize tm.getD 197 undef = u197 at e
     generalize tm.getD 198 undef = u198 at e
     generalize tm.getD 199 undef = u199 at e
     generalize tm.getD 200 undef = u200 at e
     generalize tm.getD 201 undef = u201 at e
     generalize tm.getD 202 undef = u202 at e
     generalize tm.getD 203 undef = u203 at e
     generalize tm.getD 204 undef = u204 at e
     generalize tm.getD 205 undef = u205 at e
     generalize tm.getD 206 undef = u206 at e
     generalize tm.getD 207 undef = u207 at e
     generalize tm.getD 208 undef = u208 at e
     generalize tm.getD 209 undef = u209 at e
     generalize tm.getD 210 undef = u210 at e
     generalize tm.getD 211 undef = u211 at e
     generalize tm.getD 212 undef = u212 at e
     generalize tm.getD 213 undef = u213 at e
     generalize tm.getD 214 undef = u214 at e
     generalize tm.getD 215 undef = u215 at e
     generalize tm.getD 216 undef = u216 at e
     generalize tm.getD 217 undef = u217 at e
     generalize tm.getD 218 undef = u218 at e
     generalize tm.getD 219 undef = u219 at e
     subst e
     have T0_w21 := Lib.hid (T0_w20.out.below hqw21)
     have T_w21 := Lib.hid (T_w20.out.below hqw21)
     have T1_w21 := Lib.hid (T1_w20.out.below hqw21)
     have B1_w21 := Lib.hid (B1_w20.out.below hqw21)
     have T2_w21 := Lib.hid (T2_w20.out.below hqw21)
     have B2_w21 := Lib.hid (B2_w20.out.below hqw21)
     have T3_w21 := Lib.hid (T3_w20.out.below hqw21)
     have B3_w21 := Lib.hid (B3_w20.out.below hqw21)
     have T4_w21 := Lib.hid (T4_w20.out.below hqw21)
     have B4_w21 := Lib.hid (B4_w20.out.below hqw21)
     have None_w21 := Lib.hid (None_w20.out.below hqw21)
     have z0_w21 : w.heap.size < w21.heap.size := Nat.lt_of_lt_of_le z0_w20 hqw21.size
     have z1_w21 : w10.heap.size < w21.heap.size := Nat.lt_of_lt_of_le z1_w20 hqw21.size
     have z2_w21 : w12.heap.size < w21.heap.size := Nat.lt_of_lt_of_le z2_w20 hqw21.size
     have z3_w21 : w14.heap.size < w21.heap.size := Nat.lt_of_lt_of_le z3_w20 hqw21.size
     have z4_w21 : w16.heap.size < w21.heap.size := Nat.lt_of_lt_of_le z4_w20 hqw21.size
     have z5_w21 : w17.heap.size < w21.heap.size := Nat.lt_of_lt_of_le z5_w20 hqw21.size
     have B_w21 := bt B_w20 hqw21
     clear T0_w20 T_w20 T1_w20 B1_w20 T2_w20 B2_w20 T3_w20 B3_w20 T4_w20 B4_w20 None_w20 z0_w20 z1_w20 z2_w20 z3_w20 z4_w20 z5_w20 B_w20 hqw21
     simp only [Exit.then]
     clear o_B4_0 o_B4_1 o_B4_2 o_T0_0 o_T0_1 o_T0_2
     clear hp1 hp2
     go_wp2_with fail
     go_at_call 18
     (with_reducible refine (hMac.out _).mono ?_)
     rintro e w' ⟨rfl, rfl⟩
     cases hm : macB a with
     | false =>
      obtain ⟨rfl, rfl, rfl, rfl⟩ : [] = bx ∧ 0 = sx ∧ 0 = gx ∧ 1 = ex := by
        rcases hX.out with ⟨_, h⟩ | ⟨h1, _⟩ | ⟨h1, _⟩
        · exact h
        · rw [hm] at h1; cases h1
        · rw [hm] at h1; cases h1
      obtain ⟨rfl, rfl, rfl, rfl⟩ : [] = by_ ∧ 0 = sy ∧ 0 = gy ∧ 1 = ey := by
        rcases hY.out with ⟨_, h⟩ | ⟨h1, _⟩ | ⟨h1, _⟩
        · exact h
        · rw [hm] at h1; cases h1
        · rw [hm] at h1; cases h1
      replace hm := Lib.hid hm
      clear hX hY
      go_wp2_with fail
      go_at_call 14
      (with_reducible refine (alive_any _).mono ?_)
      rintro e w22 ⟨rfl, hb22⟩
      have T0_w22 := Lib.hid (T0_w21.out.below hb22)
      have T_w22 := Lib.hid (T_w21.out.below hb22)
      have T1_w22 := Lib.hid (T1_w21.out.below hb22)
      have B1_w22 := Lib.hid (B1_w21.out.below hb22)
      have T2_w22 := Lib.hid (T2_w21.out.below hb22)
      have B2_w22 := Lib.hid (B2_w21.out.below hb22)
      have T3_w22 := Lib.hid (T3_w21.out.below hb22)
      have B3_w22 := Lib.hid (B3_w21.out.below hb22)
      have T4_w22 := Lib.hid (T4_w21.out.below hb22)
      have B4_w22 := Lib.hid (B4_w21.out.below hb22)
      have None_w22 := Lib.hid (None_w21.out.below hb22)
      have z0_w22 : w.heap.size < w22.heap.size := Nat.lt_of_lt_of_le z0_w21 hb22.size
      have z1_w22 : w10.heap.size < w22.heap.size := Nat.lt_of_lt_of_le z1_w21 hb22.size
      have z2_w22 : w12.heap.size < w22.heap.size := Nat.lt_of_lt_of_le z2_w21 hb22.size
      have z3_w22 : w14.heap.size < w22.heap.size := Nat.lt_of_lt_of_le z3_w21 hb22.size
      have z4_w22 : w16.heap.size < w22.heap.size := Nat.lt_of_lt_of_le z4_w21 hb22.size
      have z5_w22 : w17.heap.size < w22.heap.size := Nat.lt_of_lt_of_le z5_w21 hb22.size
      have B_w22 := bt B_w21 hb22
      clear T0_w21 T_w21 T1_w21 B1_w21 T2_w21 B2_w21 T3_w21 B3_w21 T4_w21 B4_w21 None_w21 z0_w21 z1_w21 z2_w21 z3_w21 z4_w21 z5_w21 B_w21 hb22
      have o_B1_0 := B1_w22.out.c (i := 0) rfl
      have o_B1_1 := B1_w22.out.c (i := 1) rfl
      have o_B1_2 := B1_w22.out.c (i := 2) rfl
      have o_None_0 := None_w22.out.c (i := 0) rfl
      have o_None_1 := None_w22.out.c (i := 1) rfl
      have o_None_2 := None_w22.out.c (i := 2) rfl
      go_wp2_with fail
      clear o_B1_0 o_B1_1 o_B1_2 o_None_0 o_None_1 o_None_2
      go_at_call 16
      (with_reducible refine (r_same 0 0 T1_w22.out.tab (TabS.empty _) small_nil').mono ?_)
      rintro e w23 ⟨rfl, hb23⟩
      have T0_w23 := Lib.hid (T0_w22.out.below hb23)
      have T_w23 := Lib.hid (T_w22.out.below hb23)
      have T1_w23 := Lib.hid (T1_w22.out.below hb23)
      have B1_w23 := Lib.hid (B1_w22.out.below hb23)
      have T2_w23 := Lib.hid (T2_w22.out.below hb23)
      have B2_w23 := Lib.hid (B2_w22.out.below hb23)
      have T3_w23 := Lib.hid (T3_w22.out.below hb23)
      have B3_w23 := Lib.hid (B3_w22.out.below hb23)
      have T4_w23 := Lib.hid (T4_w22.out.below hb23)
      have B4_w23 := Lib.hid (B4_w22.out.below hb23)
      have None_w23 := Lib.hid (None_w22.out.below hb23)
      have z0_w23 : w.heap.size < w23.heap.size := Nat.lt_of_lt_of_le z0_w22 hb23.size
      have z1_w23 : w10.heap.size < w23.heap.size := Nat.lt_of_lt_of_le z1_w22 hb23.size
      have z2_w23 : w12.heap.size < w23.heap.size := Nat.lt_of_lt_of_le z2_w22 hb23.size
      have z3_w23 : w14.heap.size < w23.heap.size := Nat.lt_of_lt_of_le z3_w22 hb23.size
      have z4_w23 : w16.heap.size < w23.heap.size := Nat.lt_of_lt_of_le z4_w22 hb23.size
      have z5_w23 : w17.heap.size < w23.heap.size := Nat.lt_of_lt_of_le z5_w22 hb23.size
      have B_w23 := bt B_w22 hb23
      clear T0_w22 T_w22 T1_w22 B1_w22 T2_w22 B2_w22 T3_w22 B3_w22 T4_w22 B4_w22 None_w22 z0_w22 z1_w22 z2_w22 z3_w22 z4_w22 z5_w22 B_w22 hb23
      have o_B2_0 := B2_w23.out.c (i := 0) rfl
      have o_B2_1 := B2_w23.out.c (i := 1) rfl
      have o_B2_2 := B2_w23.out.c (i := 2) rfl
      have o_None_0 := None_w23.out.c (i := 0) rfl
      have o_None_1 := None_w23.out.c (i := 1) rfl
      have o_None_2 := None_w23.out.c (i := 2) rfl
      go_wp2_with fail
      clear o_B2_0 o_B2_1 o_B2_2 o_None_0 o_None_1 o_None_2
      go_at_call 16
      (with_reducible refine (r_same 0 0 T2_w23.out.tab (TabS.empty _) small_nil').mono ?_)
      rintro e w24 ⟨rfl, hb24⟩
      have T0_w24 := Lib.hid (T0_w23.out.below hb24)
      have T_w24 := Lib.hid (T_w23.out.below hb24)
      have T1_w24 := Lib.hid (T1_w23.out.below hb24)
      have B1_w24 := Lib.hid (B1_w23.out.below hb24)
      have T2_w24 := Lib.hid (T2_w23.out.below hb24)
      have B2_w24 := Lib.hid (B2_w23.out.below hb24)
      have T3_w24 := Lib.hid (T3_w23.out.below hb24)
      have B3_w24 := Lib.hid (B3_w23.out.below hb24)
      have T4_w24 := Lib.hid (T4_w23.out.below hb24)
      have B4_w24 := Lib.hid (B4_w23.out.below hb24)
      have None_w24 := Lib.hid (None_w23.out.below hb24)
      have z0_w24 : w.heap.size < w24.heap.size := Nat.lt_of_lt_of_le z0_w23 hb24.size
      have z1_w24 : w10.heap.size < w24.heap.size := Nat.lt_of_lt_of_le z1_w23 hb24.size
      have z2_w24 : w12.heap.size < w24.heap.size := Nat.lt_of_lt_of_le z2_w23 hb24.size
      have z3_w24 : w14.heap.size < w24.heap.size := Nat.lt_of_lt_of_le z3_w23 hb24.size
      have z4_w24 : w16.heap.size < w24.heap.size := Nat.lt_of_lt_of_le z4_w23 hb24.size
      have z5_w24 : w17.heap.size < w24.heap.size := Nat.lt_of_lt_of_le z5_w23 hb24.size
      have B_w24 := bt B_w23 hb24
      clear T0_w23 T_w23 T1_w23 B1_w23 T2_w23 B2_w23 T3_w23 B3_w23 T4_w23 B4_w23 None_w23 z0_w23 z1_w23 z2_w23 z3_w23 z4_w23 z5_w23 B_w23 hb24
      go_wp2_with fail
      go_ret
      exact ⟨rfl, B_w24⟩
     | true =>
      have o_T0_0 := T0_w21.out.c (i := 0) rfl
      have o_T0_1 := T0_w21.out.c (i := 1) rfl
      have o_T0_2 := T0_w21.out.c (i := 2) rfl
      go_wp2_with fail
      clear o_T0_0 o_T0_1 o_T0_2
      go_at_call 29
      (with_reducible refine (r_pinned s ag a T_w21.out hsm.out hnb.out hm).mono ?_)
      rintro e w22 ⟨rfl, hb22⟩
      have T0_w22 := Lib.hid (T0_w21.out.below hb22)
      have T_w22 := Lib.hid (T_w21.out.below hb22)
      have T1_w22 := Lib.hid (T1_w21.out.below hb22)
      have B1_w22 := Lib.hid (B1_w21.out.below hb22)
      have T2_w22 := Lib.hid (T2_w21.out.below hb22)
      have B2_w22 := Lib.hid (B2_w21.out.below hb22)
      have T3_w22 := Lib.hid (T3_w21.out.below hb22)
      have B3_w22 := Lib.hid (B3_w21.out.below hb22)
      have T4_w22 := Lib.hid (T4_w21.out.below hb22)
      have B4_w22 := Lib.hid (B4_w21.out.below hb22)
      have None_w22 := Lib.hid (None_w21.out.below hb22)
      have z0_w22 : w.heap.size < w22.heap.size := Nat.lt_of_lt_of_le z0_w21 hb22.size
      have z1_w22 : w10.heap.size < w22.heap.size := Nat.lt_of_lt_of_le z1_w21 hb22.size
      have z2_w22 : w12.heap.size < w22.heap.size := Nat.lt_of_lt_of_le z2_w21 hb22.size
      have z3_w22 : w14.heap.size < w22.heap.size := Nat.lt_of_lt_of_le z3_w21 hb22.size
      have z4_w22 : w16.heap.size < w22.heap.size := Nat.lt_of_lt_of_le z4_w21 hb22.size
      have z5_w22 : w17.heap.size < w22.heap.size := Nat.lt_of_lt_of_le z5_w21 hb22.size
      have B_w22 := bt B_w21 hb22
      clear T0_w21 T_w21 T1_w21 B1_w21 T2_w21 B2_w21 T3_w21 B3_w21 T4_w21 B4_w21 None_w21 z0_w21 z1_w21 z2_w21 z3_w21 z4_w21 z5_w21 B_w21 hb22
      replace hm := Lib.hid hm
      cases hpw : pinW (entO bs a) with
      | false =>
       obtain ⟨rfl, rfl, rfl, rfl⟩ : [] = by_ ∧ 0 = sy ∧ 0 = gy ∧ 4 = ey := by
         rcases hY.out with ⟨h1, _⟩ | ⟨_, _, h⟩ | ⟨_, h1, _⟩
         · rw [hm.out] at h1; cases h1
         · exact h
         · rw [hpw] at h1; cases h1
       replace hpw := Lib.hid hpw
       clear hY
       have o_B2_0 := B2_w22.out.c (i := 0) rfl
       have o_B2_1 := B2_w22.out.c (i := 1) rfl
       have o_B2_2 := B2_w22.out.c (i := 2) rfl
       have o_None_0 := None_w22.out.c (i := 0) rfl
       have o_None_1 := None_w22.out.c (i := 1) rfl
       have o_None_2 := None_w22.out.c (i := 2) rfl
       go_wp2_with fail
       clear o_B2_0 o_B2_1 o_B2_2 o_None_0 o_None_1 o_None_2
       go_at_call 16
       (with_reducible refine (r_same 0 0 T2_w22.out.tab (TabS.empty _) small_nil').mono ?_)
       rintro e w23 ⟨rfl, hb23⟩
       have T0_w23 := Lib.hid (T0_w22.out.below hb23)
       have T_w23 := Lib.hid (T_w22.out.below hb23)
       have T1_w23 := Lib.hid (T1_w22.out.below hb23)
       have B1_w23 := Lib.hid (B1_w22.out.below hb23)
       have T2_w23 := Lib.hid (T2_w22.out.below hb23)
       have B2_w23 := Lib.hid (B2_w22.out.below hb23)
       have T3_w23 := Lib.hid (T3_w22.out.below hb23)
       have B3_w23 := Lib.hid (B3_w22.out.below hb23)
       have T4_w23 := Lib.hid (T4_w22.out.below hb23)
       have B4_w23 := Lib.hid (B4_w22.out.below hb23)
       have None_w23 := Lib.hid (None_w22.out.below hb23)
       have z0_w23 : w.heap.size < w23.heap.size := Nat.lt_of_lt_of_le z0_w22 hb23.size
       have z1_w23 : w10.heap.size < w23.heap.size := Nat.lt_of_lt_of_le z1_w22 hb23.size
       have z2_w23 : w12.heap.size < w23.heap.size := Nat.lt_of_lt_of_le z2_w22 hb23.size
       have z3_w23 : w14.heap.size < w23.heap.size := Nat.lt_of_lt_of_le z3_w22 hb23.size
       have z4_w23 : w16.heap.size < w23.heap.size := Nat.lt_of_lt_of_le z4_w22 hb23.size
       have z5_w23 : w17.heap.size < w23.heap.size := Nat.lt_of_lt_of_le z5_w22 hb23.size
       have B_w23 := bt B_w22 hb23
       clear T0_w22 T_w22 T1_w22 B1_w22 T2_w22 B2_w22 T3_w22 B3_w22 T4_w22 B4_w22 None_w22 z0_w22 z1_w22 z2_w22 z3_w22 z4_w22 z5_w22 B_w22 hb23
       go_wp2_with fail
       go_at_call 21
       (with_reducible refine (hPort.out _).mono ?_)
       rintro e w' ⟨rfl, rfl⟩
       obtain ⟨rfl, rfl, rfl, rfl⟩ : [] = bx ∧ 0 = sx ∧ 0 = gx ∧ 1 = ex := by
         rcases hX.out with ⟨_, h⟩ | ⟨h1, _⟩ | ⟨h1, _⟩
         · exact h
         · rw [hpo.out, Bool.and_false] at h1; cases h1
         · rw [hpo.out, Bool.and_false] at h1; cases h1
       clear hX
       go_wp2_with fail
       go_at_call 14
       (with_reducible refine (alive_any _).mono ?_)
       rintro e w24 ⟨rfl, hb24⟩
       have T0_w24 := Lib.hid (T0_w23.out.below hb24)
       have T_w24 := Lib.hid (T_w23.out.below hb24)
       have T1_w24 := Lib.hid (T1_w23.out.below hb24)
       have B1_w24 := Lib.hid (B1_w23.out.below hb24)
       have T2_w24 := Lib.hid (T2_w23.out.below hb24)
       have B2_w24 := Lib.hid (B2_w23.out.below hb24)
       have T3_w24 := Lib.hid (T3_w23.out.below hb24)
       have B3_w24 := Lib.hid (B3_w23.out.below hb24)
       have T4_w24 := Lib.hid (T4_w23.out.below hb24)
       have B4_w24 := Lib.hid (B4_w23.out.below hb24)
       have None_w24 := Lib.hid (None_w23.out.below hb24)
       have z0_w24 : w.heap.size < w24.heap.size := Nat.lt_of_lt_of_le z0_w23 hb24.size
       have z1_w24 : w10.heap.size < w24.heap.size := Nat.lt_of_lt_of_le z1_w23 hb24.size
       have z2_w24 : w12.heap.size < w24.heap.size := Nat.lt_of_lt_of_le z2_w23 hb24.size
       have z3_w24 : w14.heap.size < w24.heap.size := Nat.lt_of_lt_of_le z3_w23 hb24.size
       have z4_w24 : w16.heap.size < w24.heap.size := Nat.lt_of_lt_of_le z4_w23 hb24.size
       have z5_w24 : w17.heap.size < w24.heap.size := Nat.lt_of_lt_of_le z5_w23 hb24.size
       have B_w24 := bt B_w23 hb24
       clear T0_w23 T_w23 T1_w23 B1_w23 T2_w23 B2_w23 T3_w23 B3_w23 T4_w23 B4_w23 None_w23 z0_w23 z1_w23 z2_w23 z3_w23 z4_w23 z5_w23 B_w23 hb24
       have o_B1_0 := B1_w24.out.c (i := 0) rfl
       have o_B1_1 := B1_w24.out.c (i := 1) rfl
       have o_B1_2 := B1_w24.out.c (i := 2) rfl
       have o_None_0 := None_w24.out.c (i := 0) rfl
       have o_None_1 := None_w24.out.c (i := 1) rfl
       have o_None_2 := None_w24.out.c (i := 2) rfl
       go_wp2_with fail
       clear o_B1_0 o_B1_1 o_B1_2 o_None_0 o_None_1 o_None_2
       go_at_call 16
       (with_reducible refine (r_same 0 0 T1_w24.out.tab (TabS.empty _) small_nil').mono ?_)
       rintro e w25 ⟨rfl, hb25⟩
       have T0_w25 := Lib.hid (T0_w24.out.below hb25)
       have T_w25 := Lib.hid (T_w24.out.below hb25)
       have T1_w25 := Lib.hid (T1_w24.out.below hb25)
       have B1_w25 := Lib.hid (B1_w24.out.below hb25)
       have T2_w25 := Lib.hid (T2_w24.out.below hb25)
       have B2_w25 := Lib.hid (B2_w24.out.below hb25)
       have T3_w25 := Lib.hid (T3_w24.out.below hb25)
       have B3_w25 := Lib.hid (B3_w24.out.below hb25)
       have T4_w25 := Lib.hid (T4_w24.out.below hb25)
       have B4_w25 := Lib.hid (B4_w24.out.below hb25)
       have None_w25 := Lib.hid (None_w24.out.below hb25)
       have z0_w25 : w.heap.size < w25.heap.size := Nat.lt_of_lt_of_le z0_w24 hb25.size
       have z1_w25 : w10.heap.size < w25.heap.size := Nat.lt_of_lt_of_le z1_w24 hb25.size
       have z2_w25 : w12.heap.size < w25.heap.size := Nat.lt_of_lt_of_le z2_w24 hb25.size
       have z3_w25 : w14.heap.size < w25.heap.size := Nat.lt_of_lt_of_le z3_w24 hb25.size
       have z4_w25 : w16.heap.size < w25.heap.size := Nat.lt_of_lt_of_le z4_w24 hb25.size
       have z5_w25 : w17.heap.size < w25.heap.size := Nat.lt_of_lt_of_le z5_w24 hb25.size
       have B_w25 := bt B_w24 hb25
       clear T0_w24 T_w24 T1_w24 B1_w24 T2_w24 B2_w24 T3_w24 B3_w24 T4_w24 B4_w24 None_w24 z0_w24 z1_w24 z2_w24 z3_w24 z4_w24 z5_w24 B_w24 hb25
       go_wp2_with fail
       go_ret
       exact ⟨rfl, B_w25⟩
      | true =>
       obtain ⟨hby, hsy, rfl, rfl, rfl⟩ : rUnpin bs a = by_ ∧ Small by_ ∧ s = sy ∧ ag = gy ∧ 0 = ey := by
         rcases hY.out with ⟨h1, _⟩ | ⟨_, h1, _⟩ | ⟨_, _, h⟩
         · rw [hm.out] at h1; cases h1
         · rw [hpw] at h1; cases h1
         · exact h
       replace hpw := Lib.hid hpw
       replace hby := Lib.hid hby
       replace hsy := Lib.hid hsy
       clear hY
       go_wp2_with fail
       have o_B2_0 := B2_w22.out.c (i := 0) rfl
       have o_B2_1 := B2_w22.out.c (i := 1) rfl
       have o_B2_2 := B2_w22.out.c (i := 2) rfl
       have o_T0_0 := T0_w22.out.c (i := 0) rfl
       have o_T0_1 := T0_w22.out.c (i := 1) rfl
       have o_T0_2 := T0_w22.out.c (i := 2) rfl
       refine wp_region_opsG (by kernel_rfl) (fun ix => match ix with | 0 => 168 | 1 => 169 | 2 => 170 | 3 => 171 | 4 => 172 | 5 => 173 | 6 => 174 | 7 => 175 | 8 => 176 | 9 => 177 | _ => 0) [(2, false)] (by kernel_rfl) (by kernel_rfl) (fun i v W => match i with | 0 => v = .int .i64 0 | 1 => v = .bool false | 2 => v = .bool false | 3 => v = tbv (.slice A2 n2 c2) s ag | 4 => v = tbv (.slice A n c) s ag | 5 => v = .int .i64 a | 6 => ∃ A n c, v = tbv (.slice A n c) s ag ∧ TabS W A n c by_ | 7 => v = .bool true | 8 => v = .bool false | 9 => v = .bool false | _ => True) (fun i v W W' h hb => by
           match i with
           | 0 => exact h
           | 1 => exact h
           | 2 => exact h
           | 3 => exact h
           | 4 => exact h
           | 5 => exact h
           | 7 => exact h
           | 8 => exact h
           | 9 => exact h
           | 6 => (obtain ⟨A, n, c, h1, h2⟩ := h; exact ⟨A, n, c, h1, h2.below hb⟩)
           | n + 10 => exact trivial) (fun g hg v W h => by
           simp only [List.mem_singleton] at hg
           subst hg
           exact h) ?_ ?_
       refine ⟨?_, ?_, ?_, ?_, ?_, ?_, ?_, ?_, ?_, ?_, trivial⟩
       · as_aux_lemma =>
           intro a9 W2 K hb hdep hk hK
           replace hK : ∀ v w', (v = .int .i64 0) → Below W2.heap.size W2 w' → K (a9.put (some 168) v) w' := hK
           have d12 : a9.tmps.getD 12 undef = .int .i64 0 := hk 12 (by kernel_rfl)
           clear hdep hk
           go_simp
           exact hK _ _ rfl (Below.refl _ _)
       · as_aux_lemma =>
           intro a9 W2 K hb hdep hk hK
           replace hK : ∀ v w', (v = .bool false) → Below W2.heap.size W2 w' → K (a9.put (some 169) v) w' := hK
           have d168 : a9.tmps.getD 168 undef = .int .i64 0 := hdep ⟨0, .data⟩ (by simp) rfl
           clear hdep hk
           go_simp
           exact hK _ _ rfl (Below.refl _ _)
       · as_aux_lemma =>
           intro a9 W2 K hb hdep hk hK
           replace hK : ∀ v w', (v = .bool false) → Below W2.heap.size W2 w' → K (a9.put (some 170) v) w' := hK
           have d169 : a9.tmps.getD 169 undef = .bool false := hdep ⟨1, .data⟩ (by simp) rfl
           clear hdep hk
           go_simp
           exact hK _ _ rfl (Below.refl _ _)
       · as_aux_lemma =>
           intro a9 W2 K hb hdep hk hK
           replace hK : ∀ v w', (v = tbv (.slice A2 n2 c2) s ag) → Below W2.heap.size W2 w' → K (a9.put (some 171) v) w' := hK
           have d11 : a9.tmps.getD 11 undef = .pointer (some ⟨w12.heap.size, 0, none⟩) := hk 11 (by kernel_rfl)
           have t0 := (hb.cell (p := ⟨w12.heap.size, 0, none⟩) z2_w22).trans o_B2_0
           have t1 := (hb.cell (p := ⟨w12.heap.size, 1, none⟩) z2_w22).trans o_B2_1
           have t2 := (hb.cell (p := ⟨w12.heap.size, 2, none⟩) z2_w22).trans o_B2_2
           clear hdep hk
           go_simp
           exact hK _ _ rfl (Below.refl _ _)
       · as_aux_lemma =>
           intro a9 W2 K hb hdep hk hK
           replace hK : ∀ v w', (v = tbv (.slice A n c) s ag) → Below W2.heap.size W2 w' → K (a9.put (some 172) v) w' := hK
           have d4 : a9.tmps.getD 4 undef = .pointer (some ⟨w.heap.size, 0, none⟩) := hk 4 (by kernel_rfl)
           have t0 := (hb.cell (p := ⟨w.heap.size, 0, none⟩) z0_w22).trans o_T0_0
           have t1 := (hb.cell (p := ⟨w.heap.size, 1, none⟩) z0_w22).trans o_T0_1
           have t2 := (hb.cell (p := ⟨w.heap.size, 2, none⟩) z0_w22).trans o_T0_2
           clear hdep hk
           go_simp
           exact hK _ _ rfl (Below.refl _ _)
       · as_aux_lemma =>
           intro a9 W2 K hb hdep hk hK
           replace hK : ∀ v w', (v = .int .i64 a) → Below W2.heap.size W2 w' → K (a9.put (some 173) v) w' := hK
           have d1 : a9.tmps.getD 1 undef = .int .i64 a := hk 1 (by kernel_rfl)
           clear hdep hk
           go_simp
           exact hK _ _ rfl (Below.refl _ _)
       · as_aux_lemma =>
           intro a9 W2 K hb hdep hk hK
           replace hK : ∀ v w', (∃ A n c, v = tbv (.slice A n c) s ag ∧ TabS w' A n c by_) → Below W2.heap.size W2 w' → K (a9.put (some 174) v) w' := hK
           have d172 : a9.tmps.getD 172 undef = tbv (.slice A n c) s ag := hdep ⟨4, .data⟩ (by simp) rfl
           have d173 : a9.tmps.getD 173 undef = .int .i64 a := hdep ⟨5, .data⟩ (by simp) rfl
           have hcall := r_unpin s ag a (T_w22.out.below hb) hsm.out hbl.out hnb.out hm.out
           rw [hby.out] at hcall
           replace hcall := Lib.hid hcall
           clear hdep hk
           have q172 : a9.tmps[172]?.getD undef = tbv (.slice A n c) s ag := by simpa [Array.getD_eq_getD_getElem?] using d172
           clear d172
           go_simp
           refine hcall.out.mono ?_
           rintro e w9 ⟨A8, n8, c8, rfl, r1, r2⟩
           exact hK _ _ ⟨A8, n8, c8, rfl, r1⟩ r2
       · as_aux_lemma =>
           intro a9 W2 K hb hdep hk hK
           replace hK : ∀ v w', (v = .bool true) → Below W2.heap.size W2 w' → K (a9.put (some 175) v) w' := hK
           have d171 : a9.tmps.getD 171 undef = tbv (.slice A2 n2 c2) s ag := hdep ⟨3, .data⟩ (by simp) rfl
           obtain ⟨A8, n8, c8, d174, r1⟩ : ∃ A n c, a9.tmps.getD 174 undef = tbv (.slice A n c) s ag ∧ TabS W2 A n c by_ := hdep ⟨6, .data⟩ (by simp) rfl
           have hcall := Lib.hid (r_same s ag (T2_w22.out.below hb).tab r1 hsy.out)
           clear hdep hk
           have q171 : a9.tmps[171]?.getD undef = tbv (.slice A2 n2 c2) s ag := by simpa [Array.getD_eq_getD_getElem?] using d171
           clear d171
           have q174 : a9.tmps[174]?.getD undef = tbv (.slice A8 n8 c8) s ag := by simpa [Array.getD_eq_getD_getElem?] using d174
           clear d174
           go_simp
           refine hcall.out.mono ?_
           rintro e w9 ⟨rfl, r2⟩
           exact hK _ _ rfl r2
       · as_aux_lemma =>
           intro a9 W2 K hb hdep hk hK
           replace hK : ∀ v w', (v = .bool false) → Below W2.heap.size W2 w' → K (a9.put (some 176) v) w' := hK
           have d175 : a9.tmps.getD 175 undef = .bool true := hdep ⟨7, .data⟩ (by simp) rfl
           clear hdep hk
           go_simp
           exact hK _ _ rfl (Below.refl _ _)
       · as_aux_lemma =>
           intro a9 W2 K hb hdep hk hK
           replace hK : ∀ v w', (v = .bool false) → Below W2.heap.size W2 w' → K (a9.put (some 177) v) w' := hK
           have d170 : a9.tmps.getD 170 undef = .bool false := hdep ⟨2, .data⟩ (by simp) rfl
           have d176 : a9.tmps.getD 176 undef = .bool false := hdep ⟨8, .data⟩ (by simp) rfl
           clear hdep hk
           go_simp
           exact hK _ _ rfl (Below.refl _ _)
       intro af w23 hqw23 hsp hk hn hdf
       have hx9 : af.tmps.getD 177 undef = .bool false := hsp 9 (by decide)
       clear hsp
       have s1 : af.tmps.getD 1 undef = .int .i64 a := hk 1 (by kernel_rfl)
       have s2 : af.tmps.getD 2 undef = .int .i64 port := hk 2 (by kernel_rfl)
       have s3 : af.tmps.getD 3 undef = .int .i64 now := hk 3 (by kernel_rfl)
       have s4 : af.tmps.getD 4 undef = .pointer (some ⟨w.heap.size, 0, none⟩) := hk 4 (by kernel_rfl)
       have s8 : af.tmps.getD 8 undef = .bool false := hk 8 (by kernel_rfl)
       have s9 : af.tmps.getD 9 undef = .pointer (some ⟨w10.heap.size, 0, none⟩) := hk 9 (by kernel_rfl)
       have s10 : af.tmps.getD 10 undef = .int .i64 ex := hk 10 (by kernel_rfl)
       have s11 : af.tmps.getD 11 undef = .pointer (some ⟨w12.heap.size, 0, none⟩) := hk 11 (by kernel_rfl)
       have s12 : af.tmps.getD 12 undef = .int .i64 0 := hk 12 (by kernel_rfl)
       have s13 : af.tmps.getD 13 undef = .pointer (some ⟨w14.heap.size, 0, none⟩) := hk 13 (by kernel_rfl)
       have s14 : af.tmps.getD 14 undef = .int .i64 0 := hk 14 (by kernel_rfl)
       have s15 : af.tmps.getD 15 undef = .pointer (some ⟨w16.heap.size, 0, none⟩) := hk 15 (by kernel_rfl)
       have s16 : af.tmps.getD 16 undef = .int .i64 0 := hk 16 (by kernel_rfl)
       have s17 : af.tmps.getD 17 undef = .pointer (some ⟨w17.heap.size, 0, none⟩) := hk 17 (by kernel_rfl)
       have s177 : af.tmps.getD 177 undef = .bool false := hx9
       clear hk hx9
       obtain ⟨tm, df⟩ := af
       have e := arr_out tm 220 hn
       replace e : tm = #[tm.getD 0 undef, tm.getD 1 undef, tm.getD 2 undef, tm.getD 3 undef, tm.getD 4 undef, tm.getD 5 undef, tm.getD 6 undef, tm.getD 7 undef, tm.getD 8 undef, tm.getD 9 undef, tm.getD 10 undef, tm.getD 11 undef, tm.getD 12 undef, tm.getD 13 undef, tm.getD 14 undef, tm.getD 15 undef, tm.getD 16 undef, tm.getD 17 undef, tm.getD 18 undef, tm.getD 19 undef, tm.getD 20 undef, tm.getD 21 undef, tm.getD 22 undef, tm.getD 23 undef, tm.getD 24 undef, tm.getD 25 undef, tm.getD 26 undef, tm.getD 27 undef, tm.getD 28 undef, tm.getD 29 undef, tm.getD 30 undef, tm.getD 31 undef, tm.getD 32 undef, tm.getD 33 undef, tm.getD 34 undef, tm.getD 35 undef, tm.getD 36 undef, tm.getD 37 undef, tm.getD 38 undef, tm.getD 39 undef, tm.getD 40 undef, tm.getD 41 undef, tm.getD 42 undef, tm.getD 43 undef, tm.getD 44 undef, tm.getD 45 undef, tm.getD 46 undef, tm.getD 47 undef, tm.getD 48 undef, tm.getD 49 undef, tm.getD 50 undef, tm.getD 51 undef, tm.getD 52 undef, tm.getD 53 undef, tm.getD 54 undef, tm.getD 55 undef, tm.getD 56 undef, tm.getD 57 undef, tm.getD 58 undef, tm.getD 59 undef, tm.getD 60 undef, tm.getD 61 undef, tm.getD 62 undef, tm.getD 63 undef, tm.getD 64 undef, tm.getD 65 undef, tm.getD 66 undef, tm.getD 67 undef, tm.getD 68 undef, tm.getD 69 undef, tm.getD 70 undef, tm.getD 71 undef, tm.getD 72 undef, tm.getD 73 undef, tm.getD 74 undef, tm.getD 75 undef, tm.getD 76 undef, tm.getD 77 undef, tm.getD 78 undef, tm.getD 79 undef, tm.getD 80 undef, tm.getD 81 undef, tm.getD 82 undef, tm.getD 83 undef, tm.getD 84 undef, tm.getD 85 undef, tm.getD 86 undef, tm.getD 87 undef, tm.getD 88 undef, tm.getD 89 undef, tm.getD 90 undef, tm.getD 91 undef, tm.getD 92 undef, tm.getD 93 undef, tm.getD 94 undef, tm.getD 95 undef, tm.getD 96 undef, tm.getD 97 undef, tm.getD 98 undef, tm.getD 99 undef, tm.getD 100 undef, tm.getD 101 undef, tm.getD 102 undef, tm.getD 103 undef, tm.getD 104 undef, tm.getD 105 undef, tm.getD 106 undef, tm.getD 107 undef, tm.getD 108 undef, tm.getD 109 undef, tm.getD 110 undef, tm.getD 111 undef, tm.getD 112 undef, tm.getD 113 undef, tm.getD 114 undef, tm.getD 115 undef, tm.getD 116 undef, tm.getD 117 undef, tm.getD 118 undef, tm.getD 119 undef, tm.getD 120 undef, tm.getD 121 undef, tm.getD 122 undef, tm.getD 123 undef, tm.getD 124 undef, tm.getD 125 undef, tm.getD 126 undef, tm.getD 127 undef, tm.getD 128 undef, tm.getD 129 undef, tm.getD 130 undef, tm.getD 131 undef, tm.getD 132 undef, tm.getD 133 undef, tm.getD 134 undef, tm.getD 135 undef, tm.getD 136 undef, tm.getD 137 undef, tm.getD 138 undef, tm.getD 139 undef, tm.getD 140 undef, tm.getD 141 undef, tm.getD 142 undef, tm.getD 143 undef, tm.getD 144 undef, tm.getD 145 undef, tm.getD 146 undef, tm.getD 147 undef, tm.getD 148 undef, tm.getD 149 undef, tm.getD 150 undef, tm.getD 151 undef, tm.getD 152 undef, tm.getD 153 undef, tm.getD 154 undef, tm.getD 155 undef, tm.getD 156 undef, tm.getD 157 undef, tm.getD 158 undef, tm.getD 159 undef, tm.getD 160 undef, tm.getD 161 undef, tm.getD 162 undef, tm.getD 163 undef, tm.getD 164 undef, tm.getD 165 undef, tm.getD 166 undef, tm.getD 167 undef, tm.getD 168 undef, tm.getD 169 undef, tm.getD 170 undef, tm.getD 171 undef, tm.getD 172 undef, tm.getD 173 undef, tm.getD 174 undef, tm.getD 175 undef, tm.getD 176 undef, tm.getD 177 undef, tm.getD 178 undef, tm.getD 179 undef, tm.getD 180 undef, tm.getD 181 undef, tm.getD 182 undef, tm.getD 183 undef, tm.getD 184 undef, tm.getD 185 undef, tm.getD 186 undef, tm.getD 187 undef, tm.getD 188 undef, tm.getD 189 undef, tm.getD 190 undef, tm.getD 191 undef, tm.getD 192 undef, tm.getD 193 undef, tm.getD 194 undef, tm.getD 195 undef, tm.getD 196 undef, tm.getD 197 undef, tm.getD 198 undef, tm.getD 199 undef, tm.getD 200 undef, tm.getD 201 undef, tm.getD 202 undef, tm.getD 203 undef, tm.getD 204 undef, tm.getD 205 undef, tm.getD 206 undef, tm.getD 207 undef, tm.getD 208 undef, tm.getD 209 undef, tm.getD 210 undef, tm.getD 211 undef, tm.getD 212 undef, tm.getD 213 undef, tm.getD 214 undef, tm.getD 215 undef, tm.getD 216 undef, tm.getD 217 undef, tm.getD 218 undef, tm.getD 219 undef] := e
       simp only at s1 s2 s3 s4 s8 s9 s10 s11 s12 s13 s14 s15 s16 s17 s177 hdf
       rw [s1, s2, s3, s4, s8, s9, s10, s11, s12, s13, s14, s15, s16, s17, s177] at e
       subst hdf
       clear s1 s2 s3 s4 s8 s9 s10 s11 s12 s13 s14 s15 s16 s17 s177 hn
       generalize tm.getD 0 undef = u0 at e
       generalize tm.getD 5 undef = u5 at e
       generalize tm.getD 6 undef = u6 at e
       generalize tm.getD 7 undef = u7 at e
       generalize tm.getD 18 undef = u18 at e
       generalize tm.getD 19 undef = u19 at e
       generalize tm.getD 20 undef = u20 at e
       generalize tm.getD 21 undef = u21 at e
       generalize tm.getD 22 undef = u22 at e
       generalize tm.getD 23 undef = u23 at e
       generalize tm.getD 24 undef = u24 at e
       generalize tm.getD 25 undef = u25 at e
       generalize tm.getD 26 undef = u26 at e
       generalize tm.getD 27 undef = u27 at e
       generalize tm.getD 28 undef = u28 at e
       generalize tm.getD 29 undef = u29 at e
       generalize tm.getD 30 undef = u30 at e
       generalize tm.getD 31 undef = u31 at e
       generalize tm.getD 32 undef = u32 at e
       generalize tm.getD 33 undef = u33 at e
       generalize tm.getD 34 undef = u34 at e
       generalize tm.getD 35 undef = u35 at e
       generalize tm.getD 36 undef = u36 at e
       generalize tm.getD 37 undef = u37 at e
       generalize tm.getD 38 undef = u38 at e
       generalize tm.getD 39 undef = u39 at e
       generalize tm.getD 40 undef = u40 at e
       generalize tm.getD 41 undef = u41 at e
       generalize tm.getD 42 undef = u42 at e
       generalize tm.getD 43 undef = u43 at e
       generalize tm.getD 44 undef = u44 at e
       generalize tm.getD 45 undef = u45 at e
       generalize tm.getD 46 undef = u46 at e
       generalize tm.getD 47 undef = u47 at e
       generalize tm.getD 48 undef = u48 at e
       generalize tm.getD 49 undef = u49 at e
       generalize tm.getD 50 undef = u50 at e
       generalize tm.getD 51 undef = u51 at e
       generalize tm.getD 52 undef = u52 at e
       generalize tm.getD 53 undef = u53 at e
       generalize tm.getD 54 undef = u54 at e
       generalize tm.getD 55 undef = u55 at e
       generalize tm.getD 56 undef = u56 at e
       generalize tm.getD 57 undef = u57 at e
       generalize tm.getD 58 undef = u58 at e
       generalize tm.getD 59 undef = u59 at e
       generalize tm.getD 60 undef = u60 at e
       generalize tm.getD 61 undef = u61 at e
       generalize tm.getD 62 undef = u62 at e
       generalize tm.getD 63 undef = u63 at e
       generalize tm.getD 64 undef = u64 at e
       generalize tm.getD 65 undef = u65 at e
       generalize tm.getD 66 undef = u66 at e
       generalize tm.getD 67 undef = u67 at e
       generalize tm.getD 68 undef = u68 at e
       generalize tm.getD 69 undef = u69 at e
       generalize tm.getD 70 undef = u70 at e
       generalize tm.getD 71 undef = u71 at e
       generalize tm.getD 72 undef = u72 at e
       generalize tm.getD 73 undef = u73 at e
       generalize tm.getD 74 undef = u74 at e
       generalize tm.getD 75 undef = u75 at e
       generalize tm.getD 76 undef = u76 at e
       generalize tm.getD 77 undef = u77 at e
       generalize tm.getD 78 undef = u78 at e
       generalize tm.getD 79 undef = u79 at e
       generalize tm.getD 80 undef = u80 at e
       generalize tm.getD 81 undef = u81 at e
       generalize tm.getD 82 undef = u82 at e
       generalize tm.getD 83 undef = u83 at e
       generalize tm.getD 84 undef = u84 at e
       generalize tm.getD 85 undef = u85 at e
       generalize tm.getD 86 undef = u86 at e
       generalize tm.getD 87 undef = u87 at e
       generalize tm.getD 88 undef = u88 at e
       generalize tm.getD 89 undef = u89 at e
       generalize tm.getD 90 undef = u90 at e
       generalize tm.getD 91 undef = u91 at e
       generalize tm.getD 92 undef = u92 at e
       generalize tm.getD 93 undef = u93 at e
       generalize tm.getD 94 undef = u94 at e
       generalize tm.getD 95 undef = u95 at e
       generalize tm.getD 96 undef = u96 at e
       generalize tm.getD 97 undef = u97 at e
       generalize tm.getD 98 undef = u98 at e
       generalize tm.getD 99 undef = u99 at e
       generalize tm.getD 100 undef = u100 at e
       generalize tm.getD 101 undef = u101 at e
       generalize tm.getD 102 undef = u102 at e
       generalize tm.getD 103 undef = u103 at e
       generalize tm.getD 104 undef = u104 at e
       generalize tm.getD 105 undef = u105 at e
       generalize tm.getD 106 undef = u106 at e
       generalize tm.getD 107 undef = u107 at e
       generalize tm.getD 108 undef = u108 at e
       generalize tm.getD 109 undef = u109 at e
       generalize tm.getD 110 undef = u110 at e
       generalize tm.getD 111 undef = u111 at e
       generalize tm.getD 112 undef = u112 at e
       generalize tm.getD 113 undef = u113 at e
       generalize tm.getD 114 undef = u114 at e
       generalize tm.getD 115 undef = u115 at e
       generalize tm.getD 116 undef = u116 at e
       generalize tm.getD 117 undef = u117 at e
       generalize tm.getD 118 undef = u118 at e
       generalize tm.getD 119 undef = u119 at e
       generalize tm.getD 120 undef = u120 at e
       generalize tm.getD 121 undef = u121 at e
       generalize tm.getD 122 undef = u122 at e
       generalize tm.getD 123 undef = u123 at e
       generalize tm.getD 124 undef = u124 at e
       generalize tm.getD 125 undef = u125 at e
       generalize tm.getD 126 undef = u126 at e
       generalize tm.getD 127 undef = u127 at e
       generalize tm.getD 128 undef = u128 at e
       generalize tm.getD 129 undef = u129 at e
       generalize tm.getD 130 undef = u130 at e
       generalize tm.getD 131 undef = u131 at e
       generalize tm.getD 132 undef = u132 at e
       generalize tm.getD 133 undef = u133 at e
       generalize tm.getD 134 undef = u134 at e
       generalize tm.getD 135 undef = u135 at e
       generalize tm.getD 136 undef = u136 at e
       generalize tm.getD 137 undef = u137 at e
       generalize tm.getD 138 undef = u138 at e
       generalize tm.getD 139 undef = u139 at e
       generalize tm.getD 140 undef = u140 at e
       generalize tm.getD 141 undef = u141 at e
       generalize tm.getD 142 undef = u142 at e
       generalize tm.getD 143 undef = u143 at e
       generalize tm.getD 144 undef = u144 at e
       generalize tm.getD 145 undef = u145 at e
       generalize tm.getD 146 undef = u146 at e
       generalize tm.getD 147 undef = u147 at e
       generalize tm.getD 148 undef = u148 at e
       generalize tm.getD 149 undef = u149 at e
       generalize tm.getD 150 undef = u150 at e
       generalize tm.getD 151 undef = u151 at e
       generalize tm.getD 152 undef = u152 at e
       generalize tm.getD 153 undef = u153 at e
       generalize tm.getD 154 undef = u154 at e
       generalize tm.getD 155 undef = u155 at e
       generalize tm.getD 156 undef = u156 at e
       generalize tm.getD 157 undef = u157 at e
       generalize tm.getD 158 undef = u158 at e
       generalize tm.getD 159 undef = u159 at e
       generalize tm.getD 160 undef = u160 at e
       generalize tm.getD 161 undef = u161 at e
       generalize tm.getD 162 undef = u162 at e
       generalize tm.getD 163 undef = u163 at e
       generalize tm.getD 164 undef = u164 at e
       generalize tm.getD 165 undef = u165 at e
       generalize tm.getD 166 undef = u166 at e
       generalize tm.getD 167 undef = u167 at e
       generalize tm.getD 168 undef = u168 at e
       generalize tm.getD 169 undef = u169 at e
       generalize tm.getD 170 undef = u170 at e
       generalize tm.getD 171 undef = u171 at e
       generalize tm.getD 172 undef = u172 at e
       generalize tm.getD 173 undef = u173 at e
       generalize tm.getD 174 undef = u174 at e
       generalize tm.getD 175 undef = u175 at e
       generalize tm.getD 176 undef = u176 at e
       generalize tm.getD 178 undef = u178 at e
       generalize tm.getD 179 undef = u179 at e
       generalize tm.getD 180 undef = u180 at e
       generalize tm.getD 181 undef = u181 at e
       generalize tm.getD 182 undef = u182 at e
       generalize tm.getD 183 undef = u183 at e
       generalize tm.getD 184 undef = u184 at e
       generalize tm.getD 185 undef = u185 at e
       generalize tm.getD 186 undef = u186 at e
       generalize tm.getD 187 undef = u187 at e
       generalize tm.getD 188 undef = u188 at e
       generalize tm.getD 189 undef = u189 at e
       generalize tm.getD 190 undef = u190 at e
       generalize tm.getD 191 undef = u191 at e
       generalize tm.getD 192 undef = u192 at e
       generalize tm.getD 193 undef = u193 at e
       generalize tm.getD 194 undef = u194 at e
       generalize tm.getD 195 undef = u195 at e
       generalize tm.getD 196 undef = u196 at e
       generalize tm.getD 197 undef = u197 at e
       generalize tm.getD 198 undef = u198 at e
       generalize tm.getD 199 undef = u199 at e
       generalize tm.getD 200 undef = u200 at e
       generalize tm.getD 201 undef = u201 at e
       generalize tm.getD 202 undef = u202 at e
       generalize tm.getD 203 undef = u203 at e
       generalize tm.getD 204 undef = u204 at e
       generalize tm.getD 205 undef = u205 at e
       generalize tm.getD 206 undef = u206 at e
       generalize tm.getD 207 undef = u207 at e
       generalize tm.getD 208 undef = u208 at e
       generalize tm.getD 209 undef = u209 at e
       generalize tm.getD 210 undef = u210 at e
       generalize tm.getD 211 undef = u211 at e
       generalize tm.getD 212 undef = u212 at e
       generalize tm.getD 213 undef = u213 at e
       generalize tm.getD 214 undef = u214 at e
       generalize tm.getD 215 undef = u215 at e
       generalize tm.getD 216 undef = u216 at e
       generalize tm.getD 217 undef = u217 at e
       generalize tm.getD 218 undef = u218 at e
       generalize tm.getD 219 undef = u219 at e
       subst e
       have T0_w23 := Lib.hid (T0_w22.out.below hqw23)
       have T_w23 := Lib.hid (T_w22.out.below hqw23)
       have T1_w23 := Lib.hid (T1_w22.out.below hqw23)
       have B1_w23 := Lib.hid (B1_w22.out.below hqw23)
       have T2_w23 := Lib.hid (T2_w22.out.below hqw23)
       have B2_w23 := Lib.hid (B2_w22.out.below hqw23)
       have T3_w23 := Lib.hid (T3_w22.out.below hqw23)
       have B3_w23 := Lib.hid (B3_w22.out.below hqw23)
       have T4_w23 := Lib.hid (T4_w22.out.below hqw23)
       have B4_w23 := Lib.hid (B4_w22.out.below hqw23)
       have None_w23 := Lib.hid (None_w22.out.below hqw23)
       have z0_w23 : w.heap.size < w23.heap.size := Nat.lt_of_lt_of_le z0_w22 hqw23.size
       have z1_w23 : w10.heap.size < w23.heap.size := Nat.lt_of_lt_of_le z1_w22 hqw23.size
       have z2_w23 : w12.heap.size < w23.heap.size := Nat.lt_of_lt_of_le z2_w22 hqw23.size
       have z3_w23 : w14.heap.size < w23.heap.size := Nat.lt_of_lt_of_le z3_w22 hqw23.size
       have z4_w23 : w16.heap.size < w23.heap.size := Nat.lt_of_lt_of_le z4_w22 hqw23.size
       have z5_w23 : w17.heap.size < w23.heap.size := Nat.lt_of_lt_of_le z5_w22 hqw23.size
       have B_w23 := bt B_w22 hqw23
       clear T0_w22 T_w22 T1_w22 B1_w22 T2_w22 B2_w22 T3_w22 B3_w22 T4_w22 B4_w22 None_w22 z0_w22 z1_w22 z2_w22 z3_w22 z4_w22 z5_w22 B_w22 hqw23
       simp only [Exit.then]
       clear o_B2_0 o_B2_1 o_B2_2 o_T0_0 o_T0_1 o_T0_2
       go_wp2_with fail
       go_at_call 21
       (with_reducible refine (hPort.out _).mono ?_)
       rintro e w' ⟨rfl, rfl⟩
       obtain ⟨rfl, rfl, rfl, rfl⟩ : [] = bx ∧ 0 = sx ∧ 0 = gx ∧ 1 = ex := by
         rcases hX.out with ⟨_, h⟩ | ⟨h1, _⟩ | ⟨h1, _⟩
         · exact h
         · rw [hpo.out, Bool.and_false] at h1; cases h1
         · rw [hpo.out, Bool.and_false] at h1; cases h1
       clear hX
       go_wp2_with fail
       go_at_call 14
       (with_reducible refine (alive_any _).mono ?_)
       rintro e w24 ⟨rfl, hb24⟩
       have T0_w24 := Lib.hid (T0_w23.out.below hb24)
       have T_w24 := Lib.hid (T_w23.out.below hb24)
       have T1_w24 := Lib.hid (T1_w23.out.below hb24)
       have B1_w24 := Lib.hid (B1_w23.out.below hb24)
       have T2_w24 := Lib.hid (T2_w23.out.below hb24)
       have B2_w24 := Lib.hid (B2_w23.out.below hb24)
       have T3_w24 := Lib.hid (T3_w23.out.below hb24)
       have B3_w24 := Lib.hid (B3_w23.out.below hb24)
       have T4_w24 := Lib.hid (T4_w23.out.below hb24)
       have B4_w24 := Lib.hid (B4_w23.out.below hb24)
       have None_w24 := Lib.hid (None_w23.out.below hb24)
       have z0_w24 : w.heap.size < w24.heap.size := Nat.lt_of_lt_of_le z0_w23 hb24.size
       have z1_w24 : w10.heap.size < w24.heap.size := Nat.lt_of_lt_of_le z1_w23 hb24.size
       have z2_w24 : w12.heap.size < w24.heap.size := Nat.lt_of_lt_of_le z2_w23 hb24.size
       have z3_w24 : w14.heap.size < w24.heap.size := Nat.lt_of_lt_of_le z3_w23 hb24.size
       have z4_w24 : w16.heap.size < w24.heap.size := Nat.lt_of_lt_of_le z4_w23 hb24.size
       have z5_w24 : w17.heap.size < w24.heap.size := Nat.lt_of_lt_of_le z5_w23 hb24.size
       have B_w24 := bt B_w23 hb24
       clear T0_w23 T_w23 T1_w23 B1_w23 T2_w23 B2_w23 T3_w23 B3_w23 T4_w23 B4_w23 None_w23 z0_w23 z1_w23 z2_w23 z3_w23 z4_w23 z5_w23 B_w23 hb24
       have o_B1_0 := B1_w24.out.c (i := 0) rfl
       have o_B1_1 := B1_w24.out.c (i := 1) rfl
       have o_B1_2 := B1_w24.out.c (i := 2) rfl
       have o_None_0 := None_w24.out.c (i := 0) rfl
       have o_None_1 := None_w24.out.c (i := 1) rfl
       have o_None_2 := None_w24.out.c (i := 2) rfl
       go_wp2_with fail
       clear o_B1_0 o_B1_1 o_B1_2 o_None_0 o_None_1 o_None_2
       go_at_call 16
       (with_reducible refine (r_same 0 0 T1_w24.out.tab (TabS.empty _) small_nil').mono ?_)
       rintro e w25 ⟨rfl, hb25⟩
       have T0_w25 := Lib.hid (T0_w24.out.below hb25)
       have T_w25 := Lib.hid (T_w24.out.below hb25)
       have T1_w25 := Lib.hid (T1_w24.out.below hb25)
       have B1_w25 := Lib.hid (B1_w24.out.below hb25)
       have T2_w25 := Lib.hid (T2_w24.out.below hb25)
       have B2_w25 := Lib.hid (B2_w24.out.below hb25)
       have T3_w25 := Lib.hid (T3_w24.out.below hb25)
       have B3_w25 := Lib.hid (B3_w24.out.below hb25)
       have T4_w25 := Lib.hid (T4_w24.out.below hb25)
       have B4_w25 := Lib.hid (B4_w24.out.below hb25)
       have None_w25 := Lib.hid (None_w24.out.below hb25)
       have z0_w25 : w.heap.size < w25.heap.size := Nat.lt_of_lt_of_le z0_w24 hb25.size
       have z1_w25 : w10.heap.size < w25.heap.size := Nat.lt_of_lt_of_le z1_w24 hb25.size
       have z2_w25 : w12.heap.size < w25.heap.size := Nat.lt_of_lt_of_le z2_w24 hb25.size
       have z3_w25 : w14.heap.size < w25.heap.size := Nat.lt_of_lt_of_le z3_w24 hb25.size
       have z4_w25 : w16.heap.size < w25.heap.size := Nat.lt_of_lt_of_le z4_w24 hb25.size
       have z5_w25 : w17.heap.size < w25.heap.size := Nat.lt_of_lt_of_le z5_w24 hb25.size
       have B_w25 := bt B_w24 hb25
       clear T0_w24 T_w24 T1_w24 B1_w24 T2_w24 B2_w24 T3_w24 B3_w24 T4_w24 B4_w24 None_w24 z0_w24 z1_w24 z2_w24 z3_w24 z4_w24 z5_w24 B_w24 hb25
       go_wp2_with fail
       go_ret
       exact ⟨rfl, B_w25⟩
    | false =>
     rw [hpo] at hPort
     obtain ⟨rfl, rfl, rfl, rfl⟩ : [] = bu ∧ 0 = su ∧ 0 = gu ∧ 1 = eu := by
       rcases hU.out with ⟨_, h⟩ | ⟨h1, _⟩
       · exact h
       · rw [hpo, hp1] at h1; cases h1
     have hp2 : (port != -1) = true := by unfold bne; rw [hp1]; rfl
     replace hpo := Lib.hid hpo
     clear hU
     have o_B4_0 := B4_w20.out.c (i := 0) rfl
     have o_B4_1 := B4_w20.out.c (i := 1) rfl
     have o_B4_2 := B4_w20.out.c (i := 2) rfl
     have o_None_0 := None_w20.out.c (i := 0) rfl
     have o_None_1 := None_w20.out.c (i := 1) rfl
     have o_None_2 := None_w20.out.c (i := 2) rfl
     go_wp2_with fail
     clear o_B4_0 o_B4_1 o_B4_2 o_None_0 o_None_1 o_None_2
     go_at_call 16
     (with_reducible refine (r_same 0 0 T4_w20.out.tab (TabS.empty _) small_nil').mono ?_)
     rintro e w21 ⟨rfl, hb21⟩
     have T0_w21 := Lib.hid (T0_w20.out.below hb21)
     have T_w21 := Lib.hid (T_w20.out.below hb21)
     have T1_w21 := Lib.hid (T1_w20.out.below hb21)
     have B1_w21 := Lib.hid (B1_w20.out.below hb21)
     have T2_w21 := Lib.hid (T2_w20.out.below hb21)
     have B2_w21 := Lib.hid (B2_w20.out.below hb21)
     have T3_w21 := Lib.hid (T3_w20.out.below hb21)
     have B3_w21 := Lib.hid (B3_w20.out.below hb21)
     have T4_w21 := Lib.hid (T4_w20.out.below hb21)
     have B4_w21 := Lib.hid (B4_w20.out.below hb21)
     have None_w21 := Lib.hid (None_w20.out.below hb21)
     have z0_w21 : w.heap.size < w21.heap.size := Nat.lt_of_lt_of_le z0_w20 hb21.size
     have z1_w21 : w10.heap.size < w21.heap.size := Nat.lt_of_lt_of_le z1_w20 hb21.size
     have z2_w21 : w12.heap.size < w21.heap.size := Nat.lt_of_lt_of_le z2_w20 hb21.size
     have z3_w21 : w14.heap.size < w21.heap.size := Nat.lt_of_lt_of_le z3_w20 hb21.size
     have z4_w21 : w16.heap.size < w21.heap.size := Nat.lt_of_lt_of_le z4_w20 hb21.size
     have z5_w21 : w17.heap.size < w21.heap.size := Nat.lt_of_lt_of_le z5_w20 hb21.size
     have B_w21 := bt B_w20 hb21
     clear T0_w20 T_w20 T1_w20 B1_w20 T2_w20 B2_w20 T3_w20 B3_w20 T4_w20 B4_w20 None_w20 z0_w20 z1_w20 z2_w20 z3_w20 z4_w20 z5_w20 B_w20 hb21
     clear hp1 hp2
     go_wp2_with fail
     go_at_call 18
     (with_reducible refine (hMac.out _).mono ?_)
     rintro e w' ⟨rfl, rfl⟩
     cases hm : macB a with
     | false =>
      obtain ⟨rfl, rfl, rfl, rfl⟩ : [] = bx ∧ 0 = sx ∧ 0 = gx ∧ 1 = ex := by
        rcases hX.out with ⟨_, h⟩ | ⟨h1, _⟩ | ⟨h1, _⟩
        · exact h
        · rw [hm] at h1; cases h1
        · rw [hm] at h1; cases h1
      obtain ⟨rfl, rfl, rfl, rfl⟩ : [] = by_ ∧ 0 = sy ∧ 0 = gy ∧ 1 = ey := by
        rcases hY.out with ⟨_, h⟩ | ⟨h1, _⟩ | ⟨h1, _⟩
        · exact h
        · rw [hm] at h1; cases h1
        · rw [hm] at h1; cases h1
      replace hm := Lib.hid hm
      clear hX hY
      go_wp2_with fail
      go_at_call 14
      (with_reducible refine (alive_any _).mono ?_)
      rintro e w22 ⟨rfl, hb22⟩
      have T0_w22 := Lib.hid (T0_w21.out.below hb22)
      have T_w22 := Lib.hid (T_w21.out.below hb22)
      have T1_w22 := Lib.hid (T1_w21.out.below hb22)
      have B1_w22 := Lib.hid (B1_w21.out.below hb22)
      have T2_w22 := Lib.hid (T2_w21.out.below hb22)
      have B2_w22 := Lib.hid (B2_w21.out.below hb22)
      have T3_w22 := Lib.hid (T3_w21.out.below hb22)
      have B3_w22 := Lib.hid (B3_w21.out.below hb22)
      have T4_w22 := Lib.hid (T4_w21.out.below hb22)
      have B4_w22 := Lib.hid (B4_w21.out.below hb22)
      have None_w22 := Lib.hid (None_w21.out.below hb22)
      have z0_w22 : w.heap.size < w22.heap.size := Nat.lt_of_lt_of_le z0_w21 hb22.size
      have z1_w22 : w10.heap.size < w22.heap.size := Nat.lt_of_lt_of_le z1_w21 hb22.size
      have z2_w22 : w12.heap.size < w22.heap.size := Nat.lt_of_lt_of_le z2_w21 hb22.size
      have z3_w22 : w14.heap.size < w22.heap.size := Nat.lt_of_lt_of_le z3_w21 hb22.size
      have z4_w22 : w16.heap.size < w22.heap.size := Nat.lt_of_lt_of_le z4_w21 hb22.size
      have z5_w22 : w17.heap.size < w22.heap.size := Nat.lt_of_lt_of_le z5_w21 hb22.size
      have B_w22 := bt B_w21 hb22
      clear T0_w21 T_w21 T1_w21 B1_w21 T2_w21 B2_w21 T3_w21 B3_w21 T4_w21 B4_w21 None_w21 z0_w21 z1_w21 z2_w21 z3_w21 z4_w21 z5_w21 B_w21 hb22
      have o_B1_0 := B1_w22.out.c (i := 0) rfl
      have o_B1_1 := B1_w22.out.c (i := 1) rfl
      have o_B1_2 := B1_w22.out.c (i := 2) rfl
      have o_None_0 := None_w22.out.c (i := 0) rfl
      have o_None_1 := None_w22.out.c (i := 1) rfl
      have o_None_2 := None_w22.out.c (i := 2) rfl
      go_wp2_with fail
      clear o_B1_0 o_B1_1 o_B1_2 o_None_0 o_None_1 o_None_2
      go_at_call 16
      (with_reducible refine (r_same 0 0 T1_w22.out.tab (TabS.empty _) small_nil').mono ?_)
      rintro e w23 ⟨rfl, hb23⟩
      have T0_w23 := Lib.hid (T0_w22.out.below hb23)
      have T_w23 := Lib.hid (T_w22.out.below hb23)
      have T1_w23 := Lib.hid (T1_w22.out.below hb23)
      have B1_w23 := Lib.hid (B1_w22.out.below hb23)
      have T2_w23 := Lib.hid (T2_w22.out.below hb23)
      have B2_w23 := Lib.hid (B2_w22.out.below hb23)
      have T3_w23 := Lib.hid (T3_w22.out.below hb23)
      have B3_w23 := Lib.hid (B3_w22.out.below hb23)
      have T4_w23 := Lib.hid (T4_w22.out.below hb23)
      have B4_w23 := Lib.hid (B4_w22.out.below hb23)
      have None_w23 := Lib.hid (None_w22.out.below hb23)
      have z0_w23 : w.heap.size < w23.heap.size := Nat.lt_of_lt_of_le z0_w22 hb23.size
      have z1_w23 : w10.heap.size < w23.heap.size := Nat.lt_of_lt_of_le z1_w22 hb23.size
      have z2_w23 : w12.heap.size < w23.heap.size := Nat.lt_of_lt_of_le z2_w22 hb23.size
      have z3_w23 : w14.heap.size < w23.heap.size := Nat.lt_of_lt_of_le z3_w22 hb23.size
      have z4_w23 : w16.heap.size < w23.heap.size := Nat.lt_of_lt_of_le z4_w22 hb23.size
      have z5_w23 : w17.heap.size < w23.heap.size := Nat.lt_of_lt_of_le z5_w22 hb23.size
      have B_w23 := bt B_w22 hb23
      clear T0_w22 T_w22 T1_w22 B1_w22 T2_w22 B2_w22 T3_w22 B3_w22 T4_w22 B4_w22 None_w22 z0_w22 z1_w22 z2_w22 z3_w22 z4_w22 z5_w22 B_w22 hb23
      have o_B2_0 := B2_w23.out.c (i := 0) rfl
      have o_B2_1 := B2_w23.out.c (i := 1) rfl
      have o_B2_2 := B2_w23.out.c (i := 2) rfl
      have o_None_0 := None_w23.out.c (i := 0) rfl
      have o_None_1 := None_w23.out.c (i := 1) rfl
      have o_None_2 := None_w23.out.c (i := 2) rfl
      go_wp2_with fail
      clear o_B2_0 o_B2_1 o_B2_2 o_None_0 o_None_1 o_None_2
      go_at_call 16
      (with_reducible refine (r_same 0 0 T2_w23.out.tab (TabS.empty _) small_nil').mono ?_)
      rintro e w24 ⟨rfl, hb24⟩
      have T0_w24 := Lib.hid (T0_w23.out.below hb24)
      have T_w24 := Lib.hid (T_w23.out.below hb24)
      have T1_w24 := Lib.hid (T1_w23.out.below hb24)
      have B1_w24 := Lib.hid (B1_w23.out.below hb24)
      have T2_w24 := Lib.hid (T2_w23.out.below hb24)
      have B2_w24 := Lib.hid (B2_w23.out.below hb24)
      have T3_w24 := Lib.hid (T3_w23.out.below hb24)
      have B3_w24 := Lib.hid (B3_w23.out.below hb24)
      have T4_w24 := Lib.hid (T4_w23.out.below hb24)
      have B4_w24 := Lib.hid (B4_w23.out.below hb24)
      have None_w24 := Lib.hid (None_w23.out.below hb24)
      have z0_w24 : w.heap.size < w24.heap.size := Nat.lt_of_lt_of_le z0_w23 hb24.size
      have z1_w24 : w10.heap.size < w24.heap.size := Nat.lt_of_lt_of_le z1_w23 hb24.size
      have z2_w24 : w12.heap.size < w24.heap.size := Nat.lt_of_lt_of_le z2_w23 hb24.size
      have z3_w24 : w14.heap.size < w24.heap.size := Nat.lt_of_lt_of_le z3_w23 hb24.size
      have z4_w24 : w16.heap.size < w24.heap.size := Nat.lt_of_lt_of_le z4_w23 hb24.size
      have z5_w24 : w17.heap.size < w24.heap.size := Nat.lt_of_lt_of_le z5_w23 hb24.size
      have B_w24 := bt B_w23 hb24
      clear T0_w23 T_w23 T1_w23 B1_w23 T2_w23 B2_w23 T3_w23 B3_w23 T4_w23 B4_w23 None_w23 z0_w23 z1_w23 z2_w23 z3_w23 z4_w23 z5_w23 B_w23 hb24
      go_wp2_with fail
      go_ret
      exact ⟨rfl, B_w24⟩
     | true =>
      have o_T0_0 := T0_w21.out.c (i := 0) rfl
      have o_T0_1 := T0_w21.out.c (i := 1) rfl
      have o_T0_2 := T0_w21.out.c (i := 2) rfl
      go_wp2_with fail
      clear o_T0_0 o_T0_1 o_T0_2
      go_at_call 29
      (with_reducible refine (r_pinned s ag a T_w21.out hsm.out hnb.out hm).mono ?_)
      rintro e w22 ⟨rfl, hb22⟩
      have T0_w22 := Lib.hid (T0_w21.out.below hb22)
      have T_w22 := Lib.hid (T_w21.out.below hb22)
      have T1_w22 := Lib.hid (T1_w21.out.below hb22)
      have B1_w22 := Lib.hid (B1_w21.out.below hb22)
      have T2_w22 := Lib.hid (T2_w21.out.below hb22)
      have B2_w22 := Lib.hid (B2_w21.out.below hb22)
      have T3_w22 := Lib.hid (T3_w21.out.below hb22)
      have B3_w22 := Lib.hid (B3_w21.out.below hb22)
      have T4_w22 := Lib.hid (T4_w21.out.below hb22)
      have B4_w22 := Lib.hid (B4_w21.out.below hb22)
      have None_w22 := Lib.hid (None_w21.out.below hb22)
      have z0_w22 : w.heap.size < w22.heap.size := Nat.lt_of_lt_of_le z0_w21 hb22.size
      have z1_w22 : w10.heap.size < w22.heap.size := Nat.lt_of_lt_of_le z1_w21 hb22.size
      have z2_w22 : w12.heap.size < w22.heap.size := Nat.lt_of_lt_of_le z2_w21 hb22.size
      have z3_w22 : w14.heap.size < w22.heap.size := Nat.lt_of_lt_of_le z3_w21 hb22.size
      have z4_w22 : w16.heap.size < w22.heap.size := Nat.lt_of_lt_of_le z4_w21 hb22.size
      have z5_w22 : w17.heap.size < w22.heap.size := Nat.lt_of_lt_of_le z5_w21 hb22.size
      have B_w22 := bt B_w21 hb22
      clear T0_w21 T_w21 T1_w21 B1_w21 T2_w21 B2_w21 T3_w21 B3_w21 T4_w21 B4_w21 None_w21 z0_w21 z1_w21 z2_w21 z3_w21 z4_w21 z5_w21 B_w21 hb22
      replace hm := Lib.hid hm
      cases hpw : pinW (entO bs a) with
      | false =>
       obtain ⟨rfl, rfl, rfl, rfl⟩ : [] = by_ ∧ 0 = sy ∧ 0 = gy ∧ 4 = ey := by
         rcases hY.out with ⟨h1, _⟩ | ⟨_, _, h⟩ | ⟨_, h1, _⟩
         · rw [hm.out] at h1; cases h1
         · exact h
         · rw [hpw] at h1; cases h1
       replace hpw := Lib.hid hpw
       clear hY
       have o_B2_0 := B2_w22.out.c (i := 0) rfl
       have o_B2_1 := B2_w22.out.c (i := 1) rfl
       have o_B2_2 := B2_w22.out.c (i := 2) rfl
       have o_None_0 := None_w22.out.c (i := 0) rfl
       have o_None_1 := None_w22.out.c (i := 1) rfl
       have o_None_2 := None_w22.out.c (i := 2) rfl
       go_wp2_with fail
       clear o_B2_0 o_B2_1 o_B2_2 o_None_0 o_None_1 o_None_2
       go_at_call 16
       (with_reducible refine (r_same 0 0 T2_w22.out.tab (TabS.empty _) small_nil').mono ?_)
       rintro e w23 ⟨rfl, hb23⟩
       have T0_w23 := Lib.hid (T0_w22.out.below hb23)
       have T_w23 := Lib.hid (T_w22.out.below hb23)
       have T1_w23 := Lib.hid (T1_w22.out.below hb23)
       have B1_w23 := Lib.hid (B1_w22.out.below hb23)
       have T2_w23 := Lib.hid (T2_w22.out.below hb23)
       have B2_w23 := Lib.hid (B2_w22.out.below hb23)
       have T3_w23 := Lib.hid (T3_w22.out.below hb23)
       have B3_w23 := Lib.hid (B3_w22.out.below hb23)
       have T4_w23 := Lib.hid (T4_w22.out.below hb23)
       have B4_w23 := Lib.hid (B4_w22.out.below hb23)
       have None_w23 := Lib.hid (None_w22.out.below hb23)
       have z0_w23 : w.heap.size < w23.heap.size := Nat.lt_of_lt_of_le z0_w22 hb23.size
       have z1_w23 : w10.heap.size < w23.heap.size := Nat.lt_of_lt_of_le z1_w22 hb23.size
       have z2_w23 : w12.heap.size < w23.heap.size := Nat.lt_of_lt_of_le z2_w22 hb23.size
       have z3_w23 : w14.heap.size < w23.heap.size := Nat.lt_of_lt_of_le z3_w22 hb23.size
       have z4_w23 : w16.heap.size < w23.heap.size := Nat.lt_of_lt_of_le z4_w22 hb23.size
       have z5_w23 : w17.heap.size < w23.heap.size := Nat.lt_of_lt_of_le z5_w22 hb23.size
       have B_w23 := bt B_w22 hb23
       clear T0_w22 T_w22 T1_w22 B1_w22 T2_w22 B2_w22 T3_w22 B3_w22 T4_w22 B4_w22 None_w22 z0_w22 z1_w22 z2_w22 z3_w22 z4_w22 z5_w22 B_w22 hb23
       go_wp2_with fail
       go_at_call 21
       (with_reducible refine (hPort.out _).mono ?_)
       rintro e w' ⟨rfl, rfl⟩
       obtain ⟨rfl, rfl, rfl, rfl⟩ : [] = bx ∧ 0 = sx ∧ 0 = gx ∧ 1 = ex := by
         rcases hX.out with ⟨_, h⟩ | ⟨h1, _⟩ | ⟨h1, _⟩
         · exact h
         · rw [hpo.out, Bool.and_false] at h1; cases h1
         · rw [hpo.out, Bool.and_false] at h1; cases h1
       clear hX
       go_wp2_with fail
       go_at_call 14
       (with_reducible refine (alive_any _).mono ?_)
       rintro e w24 ⟨rfl, hb24⟩
       have T0_w24 := Lib.hid (T0_w23.out.below hb24)
       have T_w24 := Lib.hid (T_w23.out.below hb24)
       have T1_w24 := Lib.hid (T1_w23.out.below hb24)
       have B1_w24 := Lib.hid (B1_w23.out.below hb24)
       have T2_w24 := Lib.hid (T2_w23.out.below hb24)
       have B2_w24 := Lib.hid (B2_w23.out.below hb24)
       have T3_w24 := Lib.hid (T3_w23.out.below hb24)
       have B3_w24 := Lib.hid (B3_w23.out.below hb24)
       have T4_w24 := Lib.hid (T4_w23.out.below hb24)
       have B4_w24 := Lib.hid (B4_w23.out.below hb24)
       have None_w24 := Lib.hid (None_w23.out.below hb24)
       have z0_w24 : w.heap.size < w24.heap.size := Nat.lt_of_lt_of_le z0_w23 hb24.size
       have z1_w24 : w10.heap.size < w24.heap.size := Nat.lt_of_lt_of_le z1_w23 hb24.size
       have z2_w24 : w12.heap.size < w24.heap.size := Nat.lt_of_lt_of_le z2_w23 hb24.size
       have z3_w24 : w14.heap.size < w24.heap.size := Nat.lt_of_lt_of_le z3_w23 hb24.size
       have z4_w24 : w16.heap.size < w24.heap.size := Nat.lt_of_lt_of_le z4_w23 hb24.size
       have z5_w24 : w17.heap.size < w24.heap.size := Nat.lt_of_lt_of_le z5_w23 hb24.size
       have B_w24 := bt B_w23 hb24
       clear T0_w23 T_w23 T1_w23 B1_w23 T2_w23 B2_w23 T3_w23 B3_w23 T4_w23 B4_w23 None_w23 z0_w23 z1_w23 z2_w23 z3_w23 z4_w23 z5_w23 B_w23 hb24
       have o_B1_0 := B1_w24.out.c (i := 0) rfl
       have o_B1_1 := B1_w24.out.c (i := 1) rfl
       have o_B1_2 := B1_w24.out.c (i := 2) rfl
       have o_None_0 := None_w24.out.c (i := 0) rfl
       have o_None_1 := None_w24.out.c (i := 1) rfl
       have o_None_2 := None_w24.out.c (i := 2) rfl
       go_wp2_with fail
       clear o_B1_0 o_B1_1 o_B1_2 o_None_0 o_None_1 o_None_2
       go_at_call 16
       (with_reducible refine (r_same 0 0 T1_w24.out.tab (TabS.empty _) small_nil').mono ?_)
       rintro e w25 ⟨rfl, hb25⟩
       have T0_w25 := Lib.hid (T0_w24.out.below hb25)
       have T_w25 := Lib.hid (T_w24.out.below hb25)
       have T1_w25 := Lib.hid (T1_w24.out.below hb25)
       have B1_w25 := Lib.hid (B1_w24.out.below hb25)
       have T2_w25 := Lib.hid (T2_w24.out.below hb25)
       have B2_w25 := Lib.hid (B2_w24.out.below hb25)
       have T3_w25 := Lib.hid (T3_w24.out.below hb25)
       have B3_w25 := Lib.hid (B3_w24.out.below hb25)
       have T4_w25 := Lib.hid (T4_w24.out.below hb25)
       have B4_w25 := Lib.hid (B4_w24.out.below hb25)
       have None_w25 := Lib.hid (None_w24.out.below hb25)
       have z0_w25 : w.heap.size < w25.heap.size := Nat.lt_of_lt_of_le z0_w24 hb25.size
       have z1_w25 : w10.heap.size < w25.heap.size := Nat.lt_of_lt_of_le z1_w24 hb25.size
       have z2_w25 : w12.heap.size < w25.heap.size := Nat.lt_of_lt_of_le z2_w24 hb25.size
       have z3_w25 : w14.heap.size < w25.heap.size := Nat.lt_of_lt_of_le z3_w24 hb25.size
       have z4_w25 : w16.heap.size < w25.heap.size := Nat.lt_of_lt_of_le z4_w24 hb25.size
       have z5_w25 : w17.heap.size < w25.heap.size := Nat.lt_of_lt_of_le z5_w24 hb25.size
       have B_w25 := bt B_w24 hb25
       clear T0_w24 T_w24 T1_w24 B1_w24 T2_w24 B2_w24 T3_w24 B3_w24 T4_w24 B4_w24 None_w24 z0_w24 z1_w24 z2_w24 z3_w24 z4_w24 z5_w24 B_w24 hb25
       go_wp2_with fail
       go_ret
       exact ⟨rfl, B_w25⟩
      | true =>
       obtain ⟨hby, hsy, rfl, rfl, rfl⟩ : rUnpin bs a = by_ ∧ Small by_ ∧ s = sy ∧ ag = gy ∧ 0 = ey := by
         rcases hY.out with ⟨h1, _⟩ | ⟨_, h1, _⟩ | ⟨_, _, h⟩
         · rw [hm.out] at h1; cases h1
         · rw [hpw] at h1; cases h1
         · exact h
       replace hpw := Lib.hid hpw
       replace hby := Lib.hid hby
       replace hsy := Lib.hid hsy
       clear hY
       go_wp2_with fail
       have o_B2_0 := B2_w22.out.c (i := 0) rfl
       have o_B2_1 := B2_w22.out.c (i := 1) rfl
       have o_B2_2 := B2_w22.out.c (i := 2) rfl
       have o_T0_0 := T0_w22.out.c (i := 0) rfl
       have o_T0_1 := T0_w22.out.c (i := 1) rfl
       have o_T0_2 := T0_w22.out.c (i := 2) rfl
       refine wp_region_opsG (by kernel_rfl) (fun ix => match ix with | 0 => 168 | 1 => 169 | 2 => 170 | 3 => 171 | 4 => 172 | 5 => 173 | 6 => 174 | 7 => 175 | 8 => 176 | 9 => 177 | _ => 0) [(2, false)] (by kernel_rfl) (by kernel_rfl) (fun i v W => match i with | 0 => v = .int .i64 0 | 1 => v = .bool false | 2 => v = .bool false | 3 => v = tbv (.slice A2 n2 c2) s ag | 4 => v = tbv (.slice A n c) s ag | 5 => v = .int .i64 a | 6 => ∃ A n c, v = tbv (.slice A n c) s ag ∧ TabS W A n c by_ | 7 => v = .bool true | 8 => v = .bool false | 9 => v = .bool false | _ => True) (fun i v W W' h hb => by
           match i with
           | 0 => exact h
           | 1 => exact h
           | 2 => exact h
           | 3 => exact h
           | 4 => exact h
           | 5 => exact h
           | 7 => exact h
           | 8 => exact h
           | 9 => exact h
           | 6 => (obtain ⟨A, n, c, h1, h2⟩ := h; exact ⟨A, n, c, h1, h2.below hb⟩)
           | n + 10 => exact trivial) (fun g hg v W h => by
           simp only [List.mem_singleton] at hg
           subst hg
           exact h) ?_ ?_
       refine ⟨?_, ?_, ?_, ?_, ?_, ?_, ?_, ?_, ?_, ?_, trivial⟩
       · as_aux_lemma =>
           intro a9 W2 K hb hdep hk hK
           replace hK : ∀ v w', (v = .int .i64 0) → Below W2.heap.size W2 w' → K (a9.put (some 168) v) w' := hK
           have d12 : a9.tmps.getD 12 undef = .int .i64 0 := hk 12 (by kernel_rfl)
           clear hdep hk
           go_simp
           exact hK _ _ rfl (Below.refl _ _)
       · as_aux_lemma =>
           intro a9 W2 K hb hdep hk hK
           replace hK : ∀ v w', (v = .bool false) → Below W2.heap.size W2 w' → K (a9.put (some 169) v) w' := hK
           have d168 : a9.tmps.getD 168 undef = .int .i64 0 := hdep ⟨0, .data⟩ (by simp) rfl
           clear hdep hk
           go_simp
           exact hK _ _ rfl (Below.refl _ _)
       · as_aux_lemma =>
           intro a9 W2 K hb hdep hk hK
           replace hK : ∀ v w', (v = .bool false) → Below W2.heap.size W2 w' → K (a9.put (some 170) v) w' := hK
           have d169 : a9.tmps.getD 169 undef = .bool false := hdep ⟨1, .data⟩ (by simp) rfl
           clear hdep hk
           go_simp
           exact hK _ _ rfl (Below.refl _ _)
       · as_aux_lemma =>
           intro a9 W2 K hb hdep hk hK
           replace hK : ∀ v w', (v = tbv (.slice A2 n2 c2) s ag) → Below W2.heap.size W2 w' → K (a9.put (some 171) v) w' := hK
           have d11 : a9.tmps.getD 11 undef = .pointer (some ⟨w12.heap.size, 0, none⟩) := hk 11 (by kernel_rfl)
           have t0 := (hb.cell (p := ⟨w12.heap.size, 0, none⟩) z2_w22).trans o_B2_0
           have t1 := (hb.cell (p := ⟨w12.heap.size, 1, none⟩) z2_w22).trans o_B2_1
           have t2 := (hb.cell (p := ⟨w12.heap.size, 2, none⟩) z2_w22).trans o_B2_2
           clear hdep hk
           go_simp
           exact hK _ _ rfl (Below.refl _ _)
       · as_aux_lemma =>
           intro a9 W2 K hb hdep hk hK
           replace hK : ∀ v w', (v = tbv (.slice A n c) s ag) → Below W2.heap.size W2 w' → K (a9.put (some 172) v) w' := hK
           have d4 : a9.tmps.getD 4 undef = .pointer (some ⟨w.heap.size, 0, none⟩) := hk 4 (by kernel_rfl)
           have t0 := (hb.cell (p := ⟨w.heap.size, 0, none⟩) z0_w22).trans o_T0_0
           have t1 := (hb.cell (p := ⟨w.heap.size, 1, none⟩) z0_w22).trans o_T0_1
           have t2 := (hb.cell (p := ⟨w.heap.size, 2, none⟩) z0_w22).trans o_T0_2
           clear hdep hk
           go_simp
           exact hK _ _ rfl (Below.refl _ _)
       · as_aux_lemma =>
           intro a9 W2 K hb hdep hk hK
           replace hK : ∀ v w', (v = .int .i64 a) → Below W2.heap.size W2 w' → K (a9.put (some 173) v) w' := hK
           have d1 : a9.tmps.getD 1 undef = .int .i64 a := hk 1 (by kernel_rfl)
           clear hdep hk
           go_simp
           exact hK _ _ rfl (Below.refl _ _)
       · as_aux_lemma =>
           intro a9 W2 K hb hdep hk hK
           replace hK : ∀ v w', (∃ A n c, v = tbv (.slice A n c) s ag ∧ TabS w' A n c by_) → Below W2.heap.size W2 w' → K (a9.put (some 174) v) w' := hK
           have d172 : a9.tmps.getD 172 undef = tbv (.slice A n c) s ag := hdep ⟨4, .data⟩ (by simp) rfl
           have d173 : a9.tmps.getD 173 undef = .int .i64 a := hdep ⟨5, .data⟩ (by simp) rfl
           have hcall := r_unpin s ag a (T_w22.out.below hb) hsm.out hbl.out hnb.out hm.out
           rw [hby.out] at hcall
           replace hcall := Lib.hid hcall
           clear hdep hk
           have q172 : a9.tmps[172]?.getD undef = tbv (.slice A n c) s ag := by simpa [Array.getD_eq_getD_getElem?] using d172
           clear d172
           go_simp
           refine hcall.out.mono ?_
           rintro e w9 ⟨A8, n8, c8, rfl, r1, r2⟩
           exact hK _ _ ⟨A8, n8, c8, rfl, r1⟩ r2
       · as_aux_lemma =>
           intro a9 W2 K hb hdep hk hK
           replace hK : ∀ v w', (v = .bool true) → Below W2.heap.size W2 w' → K (a9.put (some 175) v) w' := hK
           have d171 : a9.tmps.getD 171 undef = tbv (.slice A2 n2 c2) s ag := hdep ⟨3, .data⟩ (by simp) rfl
           obtain ⟨A8, n8, c8, d174, r1⟩ : ∃ A n c, a9.tmps.getD 174 undef = tbv (.slice A n c) s ag ∧ TabS W2 A n c by_ := hdep ⟨6, .data⟩ (by simp) rfl
           have hcall := Lib.hid (r_same s ag (T2_w22.out.below hb).tab r1 hsy.out)
           clear hdep hk
           have q171 : a9.tmps[171]?.getD undef = tbv (.slice A2 n2 c2) s ag := by simpa [Array.getD_eq_getD_getElem?] using d171
           clear d171
           have q174 : a9.tmps[174]?.getD undef = tbv (.slice A8 n8 c8) s ag := by simpa [Array.getD_eq_getD_getElem?] using d174
           clear d174
           go_simp
           refine hcall.out.mono ?_
           rintro e w9 ⟨rfl, r2⟩
           exact hK _ _ rfl r2
       · as_aux_lemma =>
           intro a9 W2 K hb hdep hk hK
           replace hK : ∀ v w', (v = .bool false) → Below W2.heap.size W2 w' → K (a9.put (some 176) v) w' := hK
           have d175 : a9.tmps.getD 175 undef = .bool true := hdep ⟨7, .data⟩ (by simp) rfl
           clear hdep hk
           go_simp
           exact hK _ _ rfl (Below.refl _ _)
       · as_aux_lemma =>
           intro a9 W2 K hb hdep hk hK
           replace hK : ∀ v w', (v = .bool false) → Below W2.heap.size W2 w' → K (a9.put (some 177) v) w' := hK
           have d170 : a9.tmps.getD 170 undef = .bool false := hdep ⟨2, .data⟩ (by simp) rfl
           have d176 : a9.tmps.getD 176 undef = .bool false := hdep ⟨8, .data⟩ (by simp) rfl
           clear hdep hk
           go_simp
           exact hK _ _ rfl (Below.refl _ _)
       intro af w23 hqw23 hsp hk hn hdf
       have hx9 : af.tmps.getD 177 undef = .bool false := hsp 9 (by decide)
       clear hsp
       have s1 : af.tmps.getD 1 undef = .int .i64 a := hk 1 (by kernel_rfl)
       have s2 : af.tmps.getD 2 undef = .int .i64 port := hk 2 (by kernel_rfl)
       have s3 : af.tmps.getD 3 undef = .int .i64 now := hk 3 (by kernel_rfl)
       have s4 : af.tmps.getD 4 undef = .pointer (some ⟨w.heap.size, 0, none⟩) := hk 4 (by kernel_rfl)
       have s8 : af.tmps.getD 8 undef = .bool false := hk 8 (by kernel_rfl)
       have s9 : af.tmps.getD 9 undef = .pointer (some ⟨w10.heap.size, 0, none⟩) := hk 9 (by kernel_rfl)
       have s10 : af.tmps.getD 10 undef = .int .i64 ex := hk 10 (by kernel_rfl)
       have s11 : af.tmps.getD 11 undef = .pointer (some ⟨w12.heap.size, 0, none⟩) := hk 11 (by kernel_rfl)
       have s12 : af.tmps.getD 12 undef = .int .i64 0 := hk 12 (by kernel_rfl)
       have s13 : af.tmps.getD 13 undef = .pointer (some ⟨w14.heap.size, 0, none⟩) := hk 13 (by kernel_rfl)
       have s14 : af.tmps.getD 14 undef = .int .i64 0 := hk 14 (by kernel_rfl)
       have s15 : af.tmps.getD 15 undef = .pointer (some ⟨w16.heap.size, 0, none⟩) := hk 15 (by kernel_rfl)
       have s16 : af.tmps.getD 16 undef = .int .i64 1 := hk 16 (by kernel_rfl)
       have s17 : af.tmps.getD 17 undef = .pointer (some ⟨w17.heap.size, 0, none⟩) := hk 17 (by kernel_rfl)
       have s177 : af.tmps.getD 177 undef = .bool false := hx9
       clear hk hx9
       obtain ⟨tm, df⟩ := af
       have e := arr_out tm 220 hn
       replace e : tm = #[tm.getD 0 undef, tm.getD 1 undef, tm.getD 2 undef, tm.getD 3 undef, tm.getD 4 undef, tm.getD 5 undef, tm.getD 6 undef, tm.getD 7 undef, tm.getD 8 undef, tm.getD 9 undef, tm.getD 10 undef, tm.getD 11 undef, tm.getD 12 undef, tm.getD 13 undef, tm.getD 14 undef, tm.getD 15 undef, tm.getD 16 undef, tm.getD 17 undef, tm.getD 18 undef, tm.getD 19 undef, tm.getD 20 undef, tm.getD 21 undef, tm.getD 22 undef, tm.getD 23 undef, tm.getD 24 undef, tm.getD 25 undef, tm.getD 26 undef, tm.getD 27 undef, tm.getD 28 undef, tm.getD 29 undef, tm.getD 30 undef, tm.getD 31 undef, tm.getD 32 undef, tm.getD 33 undef, tm.getD 34 undef, tm.getD 35 undef, tm.getD 36 undef, tm.getD 37 undef, tm.getD 38 undef, tm.getD 39 undef, tm.getD 40 undef, tm.getD 41 undef, tm.getD 42 undef, tm.getD 43 undef, tm.getD 44 undef, tm.getD 45 undef, tm.getD 46 undef, tm.getD 47 undef, tm.getD 48 undef, tm.getD 49 undef, tm.getD 50 undef, tm.getD 51 undef, tm.getD 52 undef, tm.getD 53 undef, tm.getD 54 undef, tm.getD 55 undef, tm.getD 56 undef, tm.getD 57 undef, tm.getD 58 undef, tm.getD 59 undef, tm.getD 60 undef, tm.getD 61 undef, tm.getD 62 undef, tm.getD 63 undef, tm.getD 64 undef, tm.getD 65 undef, tm.getD 66 undef, tm.getD 67 undef, tm.getD 68 undef, tm.getD 69 undef, tm.getD 70 undef, tm.getD 71 undef, tm.getD 72 undef, tm.getD 73 undef, tm.getD 74 undef, tm.getD 75 undef, tm.getD 76 undef, tm.getD 77 undef, tm.getD 78 undef, tm.getD 79 undef, tm.getD 80 undef, tm.getD 81 undef, tm.getD 82 undef, tm.getD 83 undef, tm.getD 84 undef, tm.getD 85 undef, tm.getD 86 undef, tm.getD 87 undef, tm.getD 88 undef, tm.getD 89 undef, tm.getD 90 undef, tm.getD 91 undef, tm.getD 92 undef, tm.getD 93 undef, tm.getD 94 undef, tm.getD 95 undef, tm.getD 96 undef, tm.getD 97 undef, tm.getD 98 undef, tm.getD 99 undef, tm.getD 100 undef, tm.getD 101 undef, tm.getD 102 undef, tm.getD 103 undef, tm.getD 104 undef, tm.getD 105 undef, tm.getD 106 undef, tm.getD 107 undef, tm.getD 108 undef, tm.getD 109 undef, tm.getD 110 undef, tm.getD 111 undef, tm.getD 112 undef, tm.getD 113 undef, tm.getD 114 undef, tm.getD 115 undef, tm.getD 116 undef, tm.getD 117 undef, tm.getD 118 undef, tm.getD 119 undef, tm.getD 120 undef, tm.getD 121 undef, tm.getD 122 undef, tm.getD 123 undef, tm.getD 124 undef, tm.getD 125 undef, tm.getD 126 undef, tm.getD 127 undef, tm.getD 128 undef, tm.getD 129 undef, tm.getD 130 undef, tm.getD 131 undef, tm.getD 132 undef, tm.getD 133 undef, tm.getD 134 undef, tm.getD 135 undef, tm.getD 136 undef, tm.getD 137 undef, tm.getD 138 undef, tm.getD 139 undef, tm.getD 140 undef, tm.getD 141 undef, tm.getD 142 undef, tm.getD 143 undef, tm.getD 144 undef, tm.getD 145 undef, tm.getD 146 undef, tm.getD 147 undef, tm.getD 148 undef, tm.getD 149 undef, tm.getD 150 undef, tm.getD 151 undef, tm.getD 152 undef, tm.getD 153 undef, tm.getD 154 undef, tm.getD 155 undef, tm.getD 156 undef, tm.getD 157 undef, tm.getD 158 undef, tm.getD 159 undef, tm.getD 160 undef, tm.getD 161 undef, tm.getD 162 undef, tm.getD 163 undef, tm.getD 164 undef, tm.getD 165 undef, tm.getD 166 undef, tm.getD 167 undef, tm.getD 168 undef, tm.getD 169 undef, tm.getD 170 undef, tm.getD 171 undef, tm.getD 172 undef, tm.getD 173 undef, tm.getD 174 undef, tm.getD 175 undef, tm.getD 176 undef, tm.getD 177 undef, tm.getD 178 undef, tm.getD 179 undef, tm.getD 180 undef, tm.getD 181 undef, tm.getD 182 undef, tm.getD 183 undef, tm.getD 184 undef, tm.getD 185 undef, tm.getD 186 undef, tm.getD 187 undef, tm.getD 188 undef, tm.getD 189 undef, tm.getD 190 undef, tm.getD 191 undef, tm.getD 192 undef, tm.getD 193 undef, tm.getD 194 undef, tm.getD 195 undef, tm.getD 196 undef, tm.getD 197 undef, tm.getD 198 undef, tm.getD 199 undef, tm.getD 200 undef, tm.getD 201 undef, tm.getD 202 undef, tm.getD 203 undef, tm.getD 204 undef, tm.getD 205 undef, tm.getD 206 undef, tm.getD 207 undef, tm.getD 208 undef, tm.getD 209 undef, tm.getD 210 undef, tm.getD 211 undef, tm.getD 212 undef, tm.getD 213 undef, tm.getD 214 undef, tm.getD 215 undef, tm.getD 216 undef, tm.getD 217 undef, tm.getD 218 undef, tm.getD 219 undef] := e
       simp only at s1 s2 s3 s4 s8 s9 s10 s11 s12 s13 s14 s15 s16 s17 s177 hdf
       rw [s1, s2, s3, s4, s8, s9, s10, s11, s12, s13, s14, s15, s16, s17, s177] at e
       subst hdf
       clear s1 s2 s3 s4 s8 s9 s10 s11 s12 s13 s14 s15 s16 s17 s177 hn
       generalize tm.getD 0 undef = u0 at e
       generalize tm.getD 5 undef = u5 at e
       generalize tm.getD 6 undef = u6 at e
       generalize tm.getD 7 undef = u7 at e
       generalize tm.getD 18 undef = u18 at e
       generalize tm.getD 19 undef = u19 at e
       generalize tm.getD 20 undef = u20 at e
       generalize tm.getD 21 undef = u21 at e
       generalize tm.getD 22 undef = u22 at e
       generalize tm.getD 23 undef = u23 at e
       generalize tm.getD 24 undef = u24 at e
       generalize tm.getD 25 undef = u25 at e
       generalize tm.getD 26 undef = u26 at e
       generalize tm.getD 27 undef = u27 at e
       generalize tm.getD 28 undef = u28 at e
       generalize tm.getD 29 undef = u29 at e
       generalize tm.getD 30 undef = u30 at e
       generalize tm.getD 31 undef = u31 at e
       generalize tm.getD 32 undef = u32 at e
       generalize tm.getD 33 undef = u33 at e
       generalize tm.getD 34 undef = u34 at e
       generalize tm.getD 35 undef = u35 at e
       generalize tm.getD 36 undef = u36 at e
       generalize tm.getD 37 undef = u37 at e
       generalize tm.getD 38 undef = u38 at e
       generalize tm.getD 39 undef = u39 at e
       generalize tm.getD 40 undef = u40 at e
       generalize tm.getD 41 undef = u41 at e
       generalize tm.getD 42 undef = u42 at e
       generalize tm.getD 43 undef = u43 at e
       generalize tm.getD 44 undef = u44 at e
       generalize tm.getD 45 undef = u45 at e
       generalize tm.getD 46 undef = u46 at e
       generalize tm.getD 47 undef = u47 at e
       generalize tm.getD 48 undef = u48 at e
       generalize tm.getD 49 undef = u49 at e
       generalize tm.getD 50 undef = u50 at e
       generalize tm.getD 51 undef = u51 at e
       generalize tm.getD 52 undef = u52 at e
       generalize tm.getD 53 undef = u53 at e
       generalize tm.getD 54 undef = u54 at e
       generalize tm.getD 55 undef = u55 at e
       generalize tm.getD 56 undef = u56 at e
       generalize tm.getD 57 undef = u57 at e
       generalize tm.getD 58 undef = u58 at e
       generalize tm.getD 59 undef = u59 at e
       generalize tm.getD 60 undef = u60 at e
       generalize tm.getD 61 undef = u61 at e
       generalize tm.getD 62 undef = u62 at e
       generalize tm.getD 63 undef = u63 at e
       generalize tm.getD 64 undef = u64 at e
       generalize tm.getD 65 undef = u65 at e
       generalize tm.getD 66 undef = u66 at e
       generalize tm.getD 67 undef = u67 at e
       generalize tm.getD 68 undef = u68 at e
       generalize tm.getD 69 undef = u69 at e
       generalize tm.getD 70 undef = u70 at e
       generalize tm.getD 71 undef = u71 at e
       generalize tm.getD 72 undef = u72 at e
       generalize tm.getD 73 undef = u73 at e
       generalize tm.getD 74 undef = u74 at e
       generalize tm.getD 75 undef = u75 at e
       generalize tm.getD 76 undef = u76 at e
       generalize tm.getD 77 undef = u77 at e
       generalize tm.getD 78 undef = u78 at e
       generalize tm.getD 79 undef = u79 at e
       generalize tm.getD 80 undef = u80 at e
       generalize tm.getD 81 undef = u81 at e
       generalize tm.getD 82 undef = u82 at e
       generalize tm.getD 83 undef = u83 at e
       generalize tm.getD 84 undef = u84 at e
       generalize tm.getD 85 undef = u85 at e
       generalize tm.getD 86 undef = u86 at e
       generalize tm.getD 87 undef = u87 at e
       generalize tm.getD 88 undef = u88 at e
       generalize tm.getD 89 undef = u89 at e
       generalize tm.getD 90 undef = u90 at e
       generalize tm.getD 91 undef = u91 at e
       generalize tm.getD 92 undef = u92 at e
       generalize tm.getD 93 undef = u93 at e
       generalize tm.getD 94 undef = u94 at e
       generalize tm.getD 95 undef = u95 at e
       generalize tm.getD 96 undef = u96 at e
       generalize tm.getD 97 undef = u97 at e
       generalize tm.getD 98 undef = u98 at e
       generalize tm.getD 99 undef = u99 at e
       generalize tm.getD 100 undef = u100 at e
       generalize tm.getD 101 undef = u101 at e
       generalize tm.getD 102 undef = u102 at e
       generalize tm.getD 103 undef = u103 at e
       generalize tm.getD 104 undef = u104 at e
       generalize tm.getD 105 undef = u105 at e
       generalize tm.getD 106 undef = u106 at e
       generalize tm.getD 107 undef = u107 at e
       generalize tm.getD 108 undef = u108 at e
       generalize tm.getD 109 undef = u109 at e
       generalize tm.getD 110 undef = u110 at e
       generalize tm.getD 111 undef = u111 at e
       generalize tm.getD 112 undef = u112 at e
       generalize tm.getD 113 undef = u113 at e
       generalize tm.getD 114 undef = u114 at e
       generalize tm.getD 115 undef = u115 at e
       generalize tm.getD 116 undef = u116 at e
       generalize tm.getD 117 undef = u117 at e
       generalize tm.getD 118 undef = u118 at e
       generalize tm.getD 119 undef = u119 at e
       generalize tm.getD 120 undef = u120 at e
       generalize tm.getD 121 undef = u121 at e
       generalize tm.getD 122 undef = u122 at e
       generalize tm.getD 123 undef = u123 at e
       generalize tm.getD 124 undef = u124 at e
       generalize tm.getD 125 undef = u125 at e
       generalize tm.getD 126 undef = u126 at e
       generalize tm.getD 127 undef = u127 at e
       generalize tm.getD 128 undef = u128 at e
       generalize tm.getD 129 undef = u129 at e
       generalize tm.getD 130 undef = u130 at e
       generalize tm.getD 131 undef = u131 at e
       generalize tm.getD 132 undef = u132 at e
       generalize tm.getD 133 undef = u133 at e
       generalize tm.getD 134 undef = u134 at e
       generalize tm.getD 135 undef = u135 at e
       generalize tm.getD 136 undef = u136 at e
       generalize tm.getD 137 undef = u137 at e
       generalize tm.getD 138 undef = u138 at e
       generalize tm.getD 139 undef = u139 at e
       generalize tm.getD 140 undef = u140 at e
       generalize tm.getD 141 undef = u141 at e
       generalize tm.getD 142 undef = u142 at e
       generalize tm.getD 143 undef = u143 at e
       generalize tm.getD 144 undef = u144 at e
       generalize tm.getD 145 undef = u145 at e
       generalize tm.getD 146 undef = u146 at e
       generalize tm.getD 147 undef = u147 at e
       generalize tm.getD 148 undef = u148 at e
       generalize tm.getD 149 undef = u149 at e
       generalize tm.getD 150 undef = u150 at e
       generalize tm.getD 151 undef = u151 at e
       generalize tm.getD 152 undef = u152 at e
       generalize tm.getD 153 undef = u153 at e
       generalize tm.getD 154 undef = u154 at e
       generalize tm.getD 155 undef = u155 at e
       generalize tm.getD 156 undef = u156 at e
       generalize tm.getD 157 undef = u157 at e
       generalize tm.getD 158 undef = u158 at e
       generalize tm.getD 159 undef = u159 at e
       generalize tm.getD 160 undef = u160 at e
       generalize tm.getD 161 undef = u161 at e
       generalize tm.getD 162 undef = u162 at e
       generalize tm.getD 163 undef = u163 at e
       generalize tm.getD 164 undef = u164 at e
       generalize tm.getD 165 undef = u165 at e
       generalize tm.getD 166 undef = u166 at e
       generalize tm.getD 167 undef = u167 at e
       generalize tm.getD 168 undef = u168 at e
       generalize tm.getD 169 undef = u169 at e
       generalize tm.getD 170 undef = u170 at e
       generalize tm.getD 171 undef = u171 at e
       generalize tm.getD 172 undef = u172 at e
       generalize tm.getD 173 undef = u173 at e
       generalize tm.getD 174 undef = u174 at e
       generalize tm.getD 175 undef = u175 at e
       generalize tm.getD 176 undef = u176 at e
       generalize tm.getD 178 undef = u178 at e
       generalize tm.getD 179 undef = u179 at e
       generalize tm.getD 180 undef = u180 at e
       generalize tm.getD 181 undef = u181 at e
       generalize tm.getD 182 undef = u182 at e
       generalize tm.getD 183 undef = u183 at e
       generalize tm.getD 184 undef = u184 at e
       generalize tm.getD 185 undef = u185 at e
       generalize tm.getD 186 undef = u186 at e
       generalize tm.getD 187 undef = u187 at e
       generalize tm.getD 188 undef = u188 at e
       generalize tm.getD 189 undef = u189 at e
       generalize tm.getD 190 undef = u190 at e
       generalize tm.getD 191 undef = u191 at e
       generalize tm.getD 192 undef = u192 at e
       generalize tm.getD 193 undef = u193 at e
       generalize tm.getD 194 undef = u194 at e
       generalize tm.getD 195 undef = u195 at e
       generalize tm.getD 196 undef = u196 at e
       generalize tm.getD 197 undef = u197 at e
       generalize tm.getD 198 undef = u198 at e
       generalize tm.getD 199 undef = u199 at e
       generalize tm.getD 200 undef = u200 at e
       generalize tm.getD 201 undef = u201 at e
       generalize tm.getD 202 undef = u202 at e
       generalize tm.getD 203 undef = u203 at e
       generalize tm.getD 204 undef = u204 at e
       generalize tm.getD 205 undef = u205 at e
       generalize tm.getD 206 undef = u206 at e
       generalize tm.getD 207 undef = u207 at e
       generalize tm.getD 208 undef = u208 at e
       generalize tm.getD 209 undef = u209 at e
       generalize tm.getD 210 undef = u210 at e
       generalize tm.getD 211 undef = u211 at e
       generalize tm.getD 212 undef = u212 at e
       generalize tm.getD 213 undef = u213 at e
       generalize tm.getD 214 undef = u214 at e
       generalize tm.getD 215 undef = u215 at e
       generalize tm.getD 216 undef = u216 at e
       generalize tm.getD 217 undef = u217 at e
       generalize tm.getD 218 undef = u218 at e
       generalize tm.getD 219 undef = u219 at e
       subst e
       have T0_w23 := Lib.hid (T0_w22.out.below hqw23)
       have T_w23 := Lib.hid (T_w22.out.below hqw23)
       have T1_w23 := Lib.hid (T1_w22.out.below hqw23)
       have B1_w23 := Lib.hid (B1_w22.out.below hqw23)
       have T2_w23 := Lib.hid (T2_w22.out.below hqw23)
       have B2_w23 := Lib.hid (B2_w22.out.below hqw23)
       have T3_w23 := Lib.hid (T3_w22.out.below hqw23)
       have B3_w23 := Lib.hid (B3_w22.out.below hqw23)
       have T4_w23 := Lib.hid (T4_w22.out.below hqw23)
       have B4_w23 := Lib.hid (B4_w22.out.below hqw23)
       have None_w23 := Lib.hid (None_w22.out.below hqw23)
       have z0_w23 : w.heap.size < w23.heap.size := Nat.lt_of_lt_of_le z0_w22 hqw23.size
       have z1_w23 : w10.heap.size < w23.heap.size := Nat.lt_of_lt_of_le z1_w22 hqw23.size
       have z2_w23 : w12.heap.size < w23.heap.size := Nat.lt_of_lt_of_le z2_w22 hqw23.size
       have z3_w23 : w14.heap.size < w23.heap.size := Nat.lt_of_lt_of_le z3_w22 hqw23.size
       have z4_w23 : w16.heap.size < w23.heap.size := Nat.lt_of_lt_of_le z4_w22 hqw23.size
       have z5_w23 : w17.heap.size < w23.heap.size := Nat.lt_of_lt_of_le z5_w22 hqw23.size
       have B_w23 := bt B_w22 hqw23
       clear T0_w22 T_w22 T1_w22 B1_w22 T2_w22 B2_w22 T3_w22 B3_w22 T4_w22 B4_w22 None_w22 z0_w22 z1_w22 z2_w22 z3_w22 z4_w22 z5_w22 B_w22 hqw23
       simp only [Exit.then]
       clear o_B2_0 o_B2_1 o_B2_2 o_T0_0 o_T0_1 o_T0_2
       go_wp2_with fail
       go_at_call 21
       (with_reducible refine (hPort.out _).mono ?_)
       rintro e w' ⟨rfl, rfl⟩
       obtain ⟨rfl, rfl, rfl, rfl⟩ : [] = bx ∧ 0 = sx ∧ 0 = gx ∧ 1 = ex := by
         rcases hX.out with ⟨_, h⟩ | ⟨h1, _⟩ | ⟨h1, _⟩
         · exact h
         · rw [hpo.out, Bool.and_false] at h1; cases h1
         · rw [hpo.out, Bool.and_false] at h1; cases h1
       clear hX
       go_wp2_with fail
       go_at_call 14
       (with_reducible refine (alive_any _).mono ?_)
       rintro e w24 ⟨rfl, hb24⟩
       have T0_w24 := Lib.hid (T0_w23.out.below hb24)
       have T_w24 := Lib.hid (T_w23.out.below hb24)
       have T1_w24 := Lib.hid (T1_w23.out.below hb24)
       have B1_w24 := Lib.hid (B1_w23.out.below hb24)
       have T2_w24 := Lib.hid (T2_w23.out.below hb24)
       have B2_w24 := Lib.hid (B2_w23.out.below hb24)
       have T3_w24 := Lib.hid (T3_w23.out.below hb24)
       have B3_w24 := Lib.hid (B3_w23.out.below hb24)
       have T4_w24 := Lib.hid (T4_w23.out.below hb24)
       have B4_w24 := Lib.hid (B4_w23.out.below hb24)
       have None_w24 := Lib.hid (None_w23.out.below hb24)
       have z0_w24 : w.heap.size < w24.heap.size := Nat.lt_of_lt_of_le z0_w23 hb24.size
       have z1_w24 : w10.heap.size < w24.heap.size := Nat.lt_of_lt_of_le z1_w23 hb24.size
       have z2_w24 : w12.heap.size < w24.heap.size := Nat.lt_of_lt_of_le z2_w23 hb24.size
       have z3_w24 : w14.heap.size < w24.heap.size := Nat.lt_of_lt_of_le z3_w23 hb24.size
       have z4_w24 : w16.heap.size < w24.heap.size := Nat.lt_of_lt_of_le z4_w23 hb24.size
       have z5_w24 : w17.heap.size < w24.heap.size := Nat.lt_of_lt_of_le z5_w23 hb24.size
       have B_w24 := bt B_w23 hb24
       clear T0_w23 T_w23 T1_w23 B1_w23 T2_w23 B2_w23 T3_w23 B3_w23 T4_w23 B4_w23 None_w23 z0_w23 z1_w23 z2_w23 z3_w23 z4_w23 z5_w23 B_w23 hb24
       have o_B1_0 := B1_w24.out.c (i := 0) rfl
       have o_B1_1 := B1_w24.out.c (i := 1) rfl
       have o_B1_2 := B1_w24.out.c (i := 2) rfl
       have o_None_0 := None_w24.out.c (i := 0) rfl
       have o_None_1 := None_w24.out.c (i := 1) rfl
       have o_None_2 := None_w24.out.c (i := 2) rfl
       go_wp2_with fail
       clear o_B1_0 o_B1_1 o_B1_2 o_None_0 o_None_1 o_None_2
       go_at_call 16
       (with_reducible refine (r_same 0 0 T1_w24.out.tab (TabS.empty _) small_nil').mono ?_)
       rintro e w25 ⟨rfl, hb25⟩
       have T0_w25 := Lib.hid (T0_w24.out.below hb25)
       have T_w25 := Lib.hid (T_w24.out.below hb25)
       have T1_w25 := Lib.hid (T1_w24.out.below hb25)
       have B1_w25 := Lib.hid (B1_w24.out.below hb25)
       have T2_w25 := Lib.hid (T2_w24.out.below hb25)
       have B2_w25 := Lib.hid (B2_w24.out.below hb25)
       have T3_w25 := Lib.hid (T3_w24.out.below hb25)
       have B3_w25 := Lib.hid (B3_w24.out.below hb25)
       have T4_w25 := Lib.hid (T4_w24.out.below hb25)
       have B4_w25 := Lib.hid (B4_w24.out.below hb25)
       have None_w25 := Lib.hid (None_w24.out.below hb25)
       have z0_w25 : w.heap.size < w25.heap.size := Nat.lt_of_lt_of_le z0_w24 hb25.size
       have z1_w25 : w10.heap.size < w25.heap.size := Nat.lt_of_lt_of_le z1_w24 hb25.size
       have z2_w25 : w12.heap.size < w25.heap.size := Nat.lt_of_lt_of_le z2_w24 hb25.size
       have z3_w25 : w14.heap.size < w25.heap.size := Nat.lt_of_lt_of_le z3_w24 hb25.size
       have z4_w25 : w16.heap.size < w25.heap.size := Nat.lt_of_lt_of_le z4_w24 hb25.size
       have z5_w25 : w17.heap.size < w25.heap.size := Nat.lt_of_lt_of_le z5_w24 hb25.size
       have B_w25 := bt B_w24 hb25
       clear T0_w24 T_w24 T1_w24 B1_w24 T2_w24 B2_w24 T3_w24 B3_w24 T4_w24 B4_w24 None_w24 z0_w24 z1_w24 z2_w24 z3_w24 z4_w24 z5_w24 B_w24 hb25
       go_wp2_with fail
       go_ret
       exact ⟨rfl, B_w25⟩
end Go.Proofs.Ytnghilcjecjljaa.FdbP
