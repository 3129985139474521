/-
  RoleTells, by the contracts of role's own functions.
-/
import Derived.Test.YtdnpcpehjjildaaRoleS
import Derived.Test.YtdnpcpehjjildaaRegGd
import Derived.Test.YtdnpcpehjjildaaRegLit
namespace Go.Proofs.Ytdnpcpehjjildaa.RoleP
open Go.Proofs.Ytdnpcpehjjildaa.MacP (wp_region_opsG arr_out)
open Go.RowKit Go.Sort Go.Proofs.Ytdnpcpehjjildaa.SliceP Go.Proofs.Ytdnpcpehjjildaa.BoxP Go.Proofs.Ytdnpcpehjjildaa.VecP
open Go.Proofs.Ytdnpcpehjjildaa.IntP (RowI SlI OwnI)
open Go.Proofs.Ytdnpcpehjjildaa.BoolP (RowB SlB)
set_option linter.unusedVariables false
set_option maxRecDepth 100000
set_option maxHeartbeats 64000000 in
theorem tells_law (C : RoleC) {s : S} {AC : Option Addr} {cC : Nat} {AU : Option Addr} {cU : Nat} {AI : Option Addr} {cI : Nat} {w : World} (hS : SelfR w s AC cC AU cU AI cI) (hk : cC ≤ 9223372036854775807 ∧ cU ≤ 9223372036854775807 ∧ cI ≤ 9223372036854775807) (p most : Int) :
    Calls Try.prog 3 #[selfV s.id (.slice AC s.costs.length cC) (.slice AU s.ups.length cU) (.slice AI s.infos.length cI), .int .i64 p, .int .i64 most] w (True1 w) := by
  go_enter Try.func3, Try.ntmps3
  have S0 := Lib.hid hS
  go_wp2_with fail
  obtain ⟨w1, hw1⟩ : ∃ W, W = w.alloc (.cells #[.int .i64 s.id, .slice AC s.costs.length cC, .slice AU s.ups.length cU, .slice AI s.infos.length cI] 26) := ⟨_, rfl⟩
  have bw1 : Below w.heap.size w w1 := by rw [hw1]; exact (Below.refl _ _).alloc (Nat.le_refl _) _
  have Xw1 : Bx w1 w.heap.size 26 #[.int .i64 s.id, .slice AC s.costs.length cC, .slice AU s.ups.length cU, .slice AI s.infos.length cI] := by rw [hw1]; exact Bx.new _ _ _ rfl
  rw [← hw1]
  clear hw1
  have S_w1 := Lib.hid (S0.out.below bw1)
  have T0_w1 := Lib.hid (Xw1)
  clear S0
  have z0_w1 : w.heap.size < w1.heap.size := Xw1.lt
  clear Xw1
  go_at_call 7
  (with_reducible refine (few_any S_w1.out hk.1 hk.2.1 hk.2.2).mono ?_)
  rintro e w2 ⟨rfl, hb2⟩
  have S_w2 := Lib.hid (S_w1.out.below hb2)
  have T0_w2 := Lib.hid (T0_w1.out.below hb2)
  have z0_w2 : w.heap.size < w2.heap.size := Nat.lt_of_lt_of_le z0_w1 hb2.size
  have B_w2 := bt bw1 hb2
  clear S_w1 T0_w1 z0_w1 bw1 hb2
  have o_T0_0 := T0_w2.out.c (i := 0) rfl
  have o_T0_1 := T0_w2.out.c (i := 1) rfl
  have o_T0_2 := T0_w2.out.c (i := 2) rfl
  have o_T0_3 := T0_w2.out.c (i := 3) rfl
  have p_T0_0 := T0_w2.out.f 0
  have p_T0_1 := T0_w2.out.f 1
  have p_T0_2 := T0_w2.out.f 2
  have p_T0_3 := T0_w2.out.f 3
  go_upto_region 2 with fail
  clear o_T0_0 o_T0_1 o_T0_2 o_T0_3 p_T0_0 p_T0_1 p_T0_2 p_T0_3
  obtain ⟨w3, hw3⟩ : ∃ W, W = ((((w2.setCell ⟨w.heap.size, 0, none⟩ (.int .i64 (few s).id)).setCell ⟨w.heap.size, 1, none⟩ (.slice AC (few s).costs.length cC)).setCell ⟨w.heap.size, 2, none⟩ (.slice AU (few s).ups.length cU)).setCell ⟨w.heap.size, 3, none⟩ (.slice AI (few s).infos.length cI)) := ⟨_, rfl⟩
  have T3 := Lib.hid (show Bx w3 w.heap.size 26 #[.int .i64 (few s).id, .slice AC (few s).costs.length cC, .slice AU (few s).ups.length cU, .slice AI (few s).infos.length cI] by rw [hw3]; exact Bx.set4 T0_w2.out)
  have B3 : Below w.heap.size w w3 := by rw [hw3]; exact below4 B_w2 (Nat.le_refl _) _ _ _ _
  have A3 := Lib.hid (Arg.new hS B3 hk)
  have z3 : w.heap.size < w3.heap.size := T3.out.lt
  rw [← hw3]
  clear hw3 S_w2 T0_w2 B_w2 z0_w2 hS hk
  generalize few s = f at *
  cases hok : f.ok with
  | false =>
    replace hok := Lib.hid hok
    have o_T_0 := T3.out.c (i := 0) rfl
    have o_T_1 := T3.out.c (i := 1) rfl
    have o_T_2 := T3.out.c (i := 2) rfl
    have o_T_3 := T3.out.c (i := 3) rfl
    go_wp2_with fail
    clear o_T_0 o_T_1 o_T_2 o_T_3
    go_at_call 8
    (with_reducible refine (C.root_no hok.out A3.out).mono ?_)
    rintro e w4 ⟨rfl, hb4⟩
    have T_w4 := Lib.hid (T3.out.below hb4)
    have A_w4 := Lib.hid (A3.out.below hb4)
    have z0_w4 : w.heap.size < w4.heap.size := Nat.lt_of_lt_of_le z3 hb4.size
    have B_w4 := bt B3 hb4
    clear T3 A3 z3 B3 hb4
    have o_T_0 := T_w4.out.c (i := 0) rfl
    have o_T_1 := T_w4.out.c (i := 1) rfl
    have o_T_2 := T_w4.out.c (i := 2) rfl
    have o_T_3 := T_w4.out.c (i := 3) rfl
    go_wp2_with fail
    clear o_T_0 o_T_1 o_T_2 o_T_3
    obtain ⟨w5, hw5⟩ : ∃ W, W = w4.alloc (.cells #[.int .i64 0, .int .i64 0, .int .i64 0, .int .i64 0] 29) := ⟨_, rfl⟩
    have bw5 : Below w4.heap.size w4 w5 := by rw [hw5]; exact (Below.refl _ _).alloc (Nat.le_refl _) _
    have Xw5 : Bx w5 w4.heap.size 29 #[.int .i64 0, .int .i64 0, .int .i64 0, .int .i64 0] := by rw [hw5]; exact Bx.new _ _ _ rfl
    rw [← hw5]
    clear hw5
    have T_w5 := Lib.hid (T_w4.out.below bw5)
    have A_w5 := Lib.hid (A_w4.out.below bw5)
    have BV_w5 := Lib.hid (Xw5)
    have z0_w5 : w.heap.size < w5.heap.size := Nat.lt_of_lt_of_le z0_w4 bw5.size
    have B_w5 := bt B_w4 bw5
    clear T_w4 A_w4 z0_w4 B_w4 bw5
    have z1_w5 : w4.heap.size < w5.heap.size := Xw5.lt
    clear Xw5
    go_at_call 9
    (with_reducible refine (C.roles_no hok.out A_w5.out).mono ?_)
    rintro e w6 ⟨A1, c1, rfl, hb6⟩
    have T_w6 := Lib.hid (T_w5.out.below hb6)
    have A_w6 := Lib.hid (A_w5.out.below hb6)
    have BV_w6 := Lib.hid (BV_w5.out.below hb6)
    have z0_w6 : w.heap.size < w6.heap.size := Nat.lt_of_lt_of_le z0_w5 hb6.size
    have z1_w6 : w4.heap.size < w6.heap.size := Nat.lt_of_lt_of_le z1_w5 hb6.size
    have B_w6 := bt B_w5 hb6
    clear T_w5 A_w5 BV_w5 z0_w5 z1_w5 B_w5 hb6
    have o_T_0 := T_w6.out.c (i := 0) rfl
    have o_T_1 := T_w6.out.c (i := 1) rfl
    have o_T_2 := T_w6.out.c (i := 2) rfl
    have o_T_3 := T_w6.out.c (i := 3) rfl
    go_wp2_with fail
    clear o_T_0 o_T_1 o_T_2 o_T_3
    go_at_call 10
    (with_reducible refine (C.tell_no hok.out A_w6.out).mono ?_)
    rintro e w7 ⟨rfl, hb7⟩
    have T_w7 := Lib.hid (T_w6.out.below hb7)
    have A_w7 := Lib.hid (A_w6.out.below hb7)
    have BV_w7 := Lib.hid (BV_w6.out.below hb7)
    have z0_w7 : w.heap.size < w7.heap.size := Nat.lt_of_lt_of_le z0_w6 hb7.size
    have z1_w7 : w4.heap.size < w7.heap.size := Nat.lt_of_lt_of_le z1_w6 hb7.size
    have B_w7 := bt B_w6 hb7
    clear T_w6 A_w6 BV_w6 z0_w6 z1_w6 B_w6 hb7
    go_wp2_with fail
    obtain ⟨w8, hw8⟩ : ∃ W, W = w7.alloc (.cells #[.int .i64 0, .int .i64 0, .int .i64 0, .int .i64 0, .int .i64 0] 36) := ⟨_, rfl⟩
    have bw8 : Below w7.heap.size w7 w8 := by rw [hw8]; exact (Below.refl _ _).alloc (Nat.le_refl _) _
    have Xw8 : Bx w8 w7.heap.size 36 #[.int .i64 0, .int .i64 0, .int .i64 0, .int .i64 0, .int .i64 0] := by rw [hw8]; exact Bx.new _ _ _ rfl
    rw [← hw8]
    clear hw8
    have T_w8 := Lib.hid (T_w7.out.below bw8)
    have A_w8 := Lib.hid (A_w7.out.below bw8)
    have BV_w8 := Lib.hid (BV_w7.out.below bw8)
    have BC_w8 := Lib.hid (Xw8)
    have z0_w8 : w.heap.size < w8.heap.size := Nat.lt_of_lt_of_le z0_w7 bw8.size
    have z1_w8 : w4.heap.size < w8.heap.size := Nat.lt_of_lt_of_le z1_w7 bw8.size
    have B_w8 := bt B_w7 bw8
    clear T_w7 A_w7 BV_w7 z0_w7 z1_w7 B_w7 bw8
    have z2_w8 : w7.heap.size < w8.heap.size := Xw8.lt
    clear Xw8
    have K_T_0 := cell_regrown (T_w8.out.c (i := 0) rfl)
    have K_T_1 := cell_regrown (T_w8.out.c (i := 1) rfl)
    have K_T_2 := cell_regrown (T_w8.out.c (i := 2) rfl)
    have K_T_3 := cell_regrown (T_w8.out.c (i := 3) rfl)
    have cC0 := fun (d : Nat) (os : Array Obj) => Calls.regrown_of (right_to C hok.out (A_w8.out.below (below_regrown w8 d os)))
    have cC1 := fun (d : Nat) (os : Array Obj) => Calls.regrown_of (r_right_to hok.out (A_w8.out.below (below_regrown w8 d os)))
    have cC2 := fun (d : Nat) (os : Array Obj) => Calls.regrown_of (alive_any C (Go.Sort.grow (redrawn w8 d) os))
    refine wp_region_quiet_below (by kernel_rfl) (by kernel_rfl) ?_
    repeat (first | go_big_quiet_step (first | with_reducible exact cC0 _ _ | with_reducible exact cC1 _ _ | with_reducible exact cC2 _ _) | quiet_step (first | with_reducible exact cC0 _ _ | with_reducible exact cC1 _ _ | with_reducible exact cC2 _ _))
    refine wpQuiet_nil ?_
    intro _ hw'
    obtain ⟨⟨dq, osq⟩, hw''⟩ := hw'
    subst hw''
    have hqw9 := below_regrown w8 dq osq
    clear K_T_0 K_T_1 K_T_2 K_T_3 cC0 cC1 cC2
    generalize Go.Sort.grow (redrawn w8 dq) osq = w9 at *
    have T_w9 := Lib.hid (T_w8.out.below hqw9)
    have A_w9 := Lib.hid (A_w8.out.below hqw9)
    have BV_w9 := Lib.hid (BV_w8.out.below hqw9)
    have BC_w9 := Lib.hid (BC_w8.out.below hqw9)
    have z0_w9 : w.heap.size < w9.heap.size := Nat.lt_of_lt_of_le z0_w8 hqw9.size
    have z1_w9 : w4.heap.size < w9.heap.size := Nat.lt_of_lt_of_le z1_w8 hqw9.size
    have z2_w9 : w7.heap.size < w9.heap.size := Nat.lt_of_lt_of_le z2_w8 hqw9.size
    have B_w9 := bt B_w8 hqw9
    clear T_w8 A_w8 BV_w8 BC_w8 z0_w8 z1_w8 z2_w8 B_w8 hqw9
    have o_T_0 := T_w9.out.c (i := 0) rfl
    have o_T_1 := T_w9.out.c (i := 1) rfl
    have o_T_2 := T_w9.out.c (i := 2) rfl
    have o_T_3 := T_w9.out.c (i := 3) rfl
    go_wp2_with fail
    clear o_T_0 o_T_1 o_T_2 o_T_3
    go_at_call 12
    (with_reducible refine (r_right_to hok.out A_w9.out).mono ?_)
    rintro e w10 ⟨rfl, hb10⟩
    have T_w10 := Lib.hid (T_w9.out.below hb10)
    have A_w10 := Lib.hid (A_w9.out.below hb10)
    have BV_w10 := Lib.hid (BV_w9.out.below hb10)
    have BC_w10 := Lib.hid (BC_w9.out.below hb10)
    have z0_w10 : w.heap.size < w10.heap.size := Nat.lt_of_lt_of_le z0_w9 hb10.size
    have z1_w10 : w4.heap.size < w10.heap.size := Nat.lt_of_lt_of_le z1_w9 hb10.size
    have z2_w10 : w7.heap.size < w10.heap.size := Nat.lt_of_lt_of_le z2_w9 hb10.size
    have B_w10 := bt B_w9 hb10
    clear T_w9 A_w9 BV_w9 BC_w9 z0_w9 z1_w9 z2_w9 B_w9 hb10
    have o_BV_0 := BV_w10.out.c (i := 0) rfl
    have o_BV_1 := BV_w10.out.c (i := 1) rfl
    have o_BV_2 := BV_w10.out.c (i := 2) rfl
    have o_BV_3 := BV_w10.out.c (i := 3) rfl
    have o_BC_0 := BC_w10.out.c (i := 0) rfl
    have o_BC_1 := BC_w10.out.c (i := 1) rfl
    have o_BC_2 := BC_w10.out.c (i := 2) rfl
    have o_BC_3 := BC_w10.out.c (i := 3) rfl
    have o_BC_4 := BC_w10.out.c (i := 4) rfl
    go_wp2_with fail
    go_ret
    exact ⟨rfl, B_w10⟩
  | true =>
    obtain ⟨v9, hv⟩ : ∃ v, f.tells 0 = v := ⟨_, rfl⟩
    obtain ⟨ri, hri⟩ : ∃ n, f.rootI = n := ⟨_, rfl⟩
    obtain ⟨cv, ca, ti, te, hT, hW⟩ := tell_any C (AC := AC) (cC := cC) (AU := AU) (cU := cU) (AI := AI) (cI := cI) hok p most
    have hF := Lib.hid (Fit.mk hok)
    replace hok := Lib.hid hok
    replace hv := Lib.hid hv
    replace hri := Lib.hid hri
    replace hT := Lib.hid hT
    replace hW := Lib.hid hW
    have hN := fun w => neq_vv v9 w
    have o_T_0 := T3.out.c (i := 0) rfl
    have o_T_1 := T3.out.c (i := 1) rfl
    have o_T_2 := T3.out.c (i := 2) rfl
    have o_T_3 := T3.out.c (i := 3) rfl
    go_wp2_with fail
    clear o_T_0 o_T_1 o_T_2 o_T_3
    go_at_call 8
    (with_reducible refine (root_ok_to C hok.out hv.out hri.out A3.out).mono ?_)
    rintro e w4 ⟨rfl, hb4⟩
    have T_w4 := Lib.hid (T3.out.below hb4)
    have A_w4 := Lib.hid (A3.out.below hb4)
    have z0_w4 : w.heap.size < w4.heap.size := Nat.lt_of_lt_of_le z3 hb4.size
    have B_w4 := bt B3 hb4
    clear T3 A3 z3 B3 hb4
    have o_T_0 := T_w4.out.c (i := 0) rfl
    have o_T_1 := T_w4.out.c (i := 1) rfl
    have o_T_2 := T_w4.out.c (i := 2) rfl
    have o_T_3 := T_w4.out.c (i := 3) rfl
    go_wp2_with fail
    clear o_T_0 o_T_1 o_T_2 o_T_3
    obtain ⟨w5, hw5⟩ : ∃ W, W = w4.alloc (.cells #[.int .i64 v9.r, .int .i64 v9.c, .int .i64 v9.b, .int .i64 v9.p] 29) := ⟨_, rfl⟩
    have bw5 : Below w4.heap.size w4 w5 := by rw [hw5]; exact (Below.refl _ _).alloc (Nat.le_refl _) _
    have Xw5 : Bx w5 w4.heap.size 29 #[.int .i64 v9.r, .int .i64 v9.c, .int .i64 v9.b, .int .i64 v9.p] := by rw [hw5]; exact Bx.new _ _ _ rfl
    rw [← hw5]
    clear hw5
    have T_w5 := Lib.hid (T_w4.out.below bw5)
    have A_w5 := Lib.hid (A_w4.out.below bw5)
    have BV_w5 := Lib.hid (Xw5)
    have z0_w5 : w.heap.size < w5.heap.size := Nat.lt_of_lt_of_le z0_w4 bw5.size
    have B_w5 := bt B_w4 bw5
    clear T_w4 A_w4 z0_w4 B_w4 bw5
    have z1_w5 : w4.heap.size < w5.heap.size := Xw5.lt
    clear Xw5
    go_at_call 9
    (with_reducible refine (C.roles_ok hok.out A_w5.out).mono ?_)
    rintro e w6 ⟨A1, c1, rfl, R1, hb6⟩
    have T_w6 := Lib.hid (T_w5.out.below hb6)
    have A_w6 := Lib.hid (A_w5.out.below hb6)
    have BV_w6 := Lib.hid (BV_w5.out.below hb6)
    have R_w6 := Lib.hid (R1)
    have z0_w6 : w.heap.size < w6.heap.size := Nat.lt_of_lt_of_le z0_w5 hb6.size
    have z1_w6 : w4.heap.size < w6.heap.size := Nat.lt_of_lt_of_le z1_w5 hb6.size
    have B_w6 := bt B_w5 hb6
    clear T_w5 A_w5 BV_w5 z0_w5 z1_w5 B_w5 hb6
    clear R1
    have o_T_0 := T_w6.out.c (i := 0) rfl
    have o_T_1 := T_w6.out.c (i := 1) rfl
    have o_T_2 := T_w6.out.c (i := 2) rfl
    have o_T_3 := T_w6.out.c (i := 3) rfl
    go_wp2_with fail
    clear o_T_0 o_T_1 o_T_2 o_T_3
    go_at_call 10
    (with_reducible refine (hT.out _ A_w6.out).mono ?_)
    rintro e w7 ⟨rfl, hb7⟩
    have T_w7 := Lib.hid (T_w6.out.below hb7)
    have A_w7 := Lib.hid (A_w6.out.below hb7)
    have BV_w7 := Lib.hid (BV_w6.out.below hb7)
    have R_w7 := Lib.hid (R_w6.out.below hb7)
    have z0_w7 : w.heap.size < w7.heap.size := Nat.lt_of_lt_of_le z0_w6 hb7.size
    have z1_w7 : w4.heap.size < w7.heap.size := Nat.lt_of_lt_of_le z1_w6 hb7.size
    have B_w7 := bt B_w6 hb7
    clear T_w6 A_w6 BV_w6 R_w6 z0_w6 z1_w6 B_w6 hb7
    go_wp2_with fail
    obtain ⟨w8, hw8⟩ : ∃ W, W = w7.alloc (.cells #[.int .i64 cv.r, .int .i64 cv.c, .int .i64 cv.b, .int .i64 cv.p, .int .i64 ca] 36) := ⟨_, rfl⟩
    have bw8 : Below w7.heap.size w7 w8 := by rw [hw8]; exact (Below.refl _ _).alloc (Nat.le_refl _) _
    have Xw8 : Bx w8 w7.heap.size 36 #[.int .i64 cv.r, .int .i64 cv.c, .int .i64 cv.b, .int .i64 cv.p, .int .i64 ca] := by rw [hw8]; exact Bx.new _ _ _ rfl
    rw [← hw8]
    clear hw8
    have T_w8 := Lib.hid (T_w7.out.below bw8)
    have A_w8 := Lib.hid (A_w7.out.below bw8)
    have BV_w8 := Lib.hid (BV_w7.out.below bw8)
    have R_w8 := Lib.hid (R_w7.out.below bw8)
    have BC_w8 := Lib.hid (Xw8)
    have z0_w8 : w.heap.size < w8.heap.size := Nat.lt_of_lt_of_le z0_w7 bw8.size
    have z1_w8 : w4.heap.size < w8.heap.size := Nat.lt_of_lt_of_le z1_w7 bw8.size
    have B_w8 := bt B_w7 bw8
    clear T_w7 A_w7 BV_w7 R_w7 z0_w7 z1_w7 B_w7 bw8
    have z2_w8 : w7.heap.size < w8.heap.size := Xw8.lt
    clear Xw8
    have K_T_0 := cell_regrown (T_w8.out.c (i := 0) rfl)
    have K_T_1 := cell_regrown (T_w8.out.c (i := 1) rfl)
    have K_T_2 := cell_regrown (T_w8.out.c (i := 2) rfl)
    have K_T_3 := cell_regrown (T_w8.out.c (i := 3) rfl)
    have cC0 := fun (d : Nat) (os : Array Obj) => Calls.regrown_of (right_to C hok.out (A_w8.out.below (below_regrown w8 d os)))
    have cC1 := fun (d : Nat) (os : Array Obj) => Calls.regrown_of (r_right_to hok.out (A_w8.out.below (below_regrown w8 d os)))
    have cC2 := fun (d : Nat) (os : Array Obj) => Calls.regrown_of (alive_any C (Go.Sort.grow (redrawn w8 d) os))
    refine wp_region_quiet_below (by kernel_rfl) (by kernel_rfl) ?_
    repeat (first | go_big_quiet_step (first | with_reducible exact cC0 _ _ | with_reducible exact cC1 _ _ | with_reducible exact cC2 _ _) | quiet_step (first | with_reducible exact cC0 _ _ | with_reducible exact cC1 _ _ | with_reducible exact cC2 _ _))
    refine wpQuiet_nil ?_
    intro _ hw'
    obtain ⟨⟨dq, osq⟩, hw''⟩ := hw'
    subst hw''
    have hqw9 := below_regrown w8 dq osq
    clear K_T_0 K_T_1 K_T_2 K_T_3 cC0 cC1 cC2
    generalize Go.Sort.grow (redrawn w8 dq) osq = w9 at *
    have T_w9 := Lib.hid (T_w8.out.below hqw9)
    have A_w9 := Lib.hid (A_w8.out.below hqw9)
    have BV_w9 := Lib.hid (BV_w8.out.below hqw9)
    have R_w9 := Lib.hid (R_w8.out.below hqw9)
    have BC_w9 := Lib.hid (BC_w8.out.below hqw9)
    have z0_w9 : w.heap.size < w9.heap.size := Nat.lt_of_lt_of_le z0_w8 hqw9.size
    have z1_w9 : w4.heap.size < w9.heap.size := Nat.lt_of_lt_of_le z1_w8 hqw9.size
    have z2_w9 : w7.heap.size < w9.heap.size := Nat.lt_of_lt_of_le z2_w8 hqw9.size
    have B_w9 := bt B_w8 hqw9
    clear T_w8 A_w8 BV_w8 R_w8 BC_w8 z0_w8 z1_w8 z2_w8 B_w8 hqw9
    have o_T_0 := T_w9.out.c (i := 0) rfl
    have o_T_1 := T_w9.out.c (i := 1) rfl
    have o_T_2 := T_w9.out.c (i := 2) rfl
    have o_T_3 := T_w9.out.c (i := 3) rfl
    go_wp2_with fail
    clear o_T_0 o_T_1 o_T_2 o_T_3
    go_at_call 12
    (with_reducible refine (r_right_to hok.out A_w9.out).mono ?_)
    rintro e w10 ⟨rfl, hb10⟩
    have T_w10 := Lib.hid (T_w9.out.below hb10)
    have A_w10 := Lib.hid (A_w9.out.below hb10)
    have BV_w10 := Lib.hid (BV_w9.out.below hb10)
    have R_w10 := Lib.hid (R_w9.out.below hb10)
    have BC_w10 := Lib.hid (BC_w9.out.below hb10)
    have z0_w10 : w.heap.size < w10.heap.size := Nat.lt_of_lt_of_le z0_w9 hb10.size
    have z1_w10 : w4.heap.size < w10.heap.size := Nat.lt_of_lt_of_le z1_w9 hb10.size
    have z2_w10 : w7.heap.size < w10.heap.size := Nat.lt_of_lt_of_le z2_w9 hb10.size
    have B_w10 := bt B_w9 hb10
    clear T_w9 A_w9 BV_w9 R_w9 BC_w9 z0_w9 z1_w9 z2_w9 B_w9 hb10
    go_upto_region 9 with fail
    have o_T_0 := T_w10.out.c (i := 0) rfl
    have o_T_1 := T_w10.out.c (i := 1) rfl
    have o_T_2 := T_w10.out.c (i := 2) rfl
    have o_T_3 := T_w10.out.c (i := 3) rfl
    have o_BV_0 := BV_w10.out.c (i := 0) rfl
    have o_BV_1 := BV_w10.out.c (i := 1) rfl
    have o_BV_2 := BV_w10.out.c (i := 2) rfl
    have o_BV_3 := BV_w10.out.c (i := 3) rfl
    have hrl := Lib.hid (show f.roles.length ≤ 1000 by unfold S.roles; rw [List.length_map, List.length_range]; exact A_w10.out.l.1)
    refine wp_region_opsG (by kernel_rfl) (fun ix => match ix with | 0 => 83 | 1 => 84 | 2 => 85 | 3 => 86 | 4 => 87 | 5 => 88 | 6 => 89 | 7 => 90 | 8 => 91 | 9 => 92 | 10 => 93 | 11 => 94 | 12 => 95 | 13 => 96 | 14 => 97 | 15 => 98 | 16 => 99 | 17 => 100 | 18 => 101 | 19 => 102 | 20 => 103 | 21 => 104 | 22 => 105 | 23 => 106 | 24 => 107 | _ => 0) [(2, false), (6, false), (12, false), (18, false)] (by kernel_rfl) (by kernel_rfl) (fun i v W => match i with | 0 => v = .int .i64 0 | 1 => v = .bool false | 2 => v = .bool false | 3 => v = .int .i64 0 | 4 => v = .bool false | 5 => v = .bool false | 6 => v = .bool false | 7 => v = vg v9 | 8 => v = selfV f.id (.slice AC f.costs.length cC) (.slice AU f.ups.length cU) (.slice AI f.infos.length cI) | 9 => v = vg v9 | 10 => v = .bool false | 11 => v = .bool false | 12 => v = .bool false | 13 => v = .int .i64 ri | 14 => v = selfV f.id (.slice AC f.costs.length cC) (.slice AU f.ups.length cU) (.slice AI f.infos.length cI) | 15 => v = .int .i64 ri | 16 => v = .bool false | 17 => v = .bool false | 18 => v = .bool false | 19 => v = .slice A1 f.roles.length c1 | 20 => v = selfV f.id (.slice AC f.costs.length cC) (.slice AU f.ups.length cU) (.slice AI f.infos.length cI) | 21 => ∃ A c, v = .slice A f.roles.length c ∧ RowI W A f.roles.length c f.roles | 22 => v = .bool true | 23 => v = .bool false | 24 => v = .bool false | _ => True) (fun i v W W' h hb => by
        match i with
        | 0 => exact h
        | 1 => exact h
        | 2 => exact h
        | 3 => exact h
        | 4 => exact h
        | 5 => exact h
        | 6 => exact h
        | 7 => exact h
        | 8 => exact h
        | 9 => exact h
        | 10 => exact h
        | 11 => exact h
        | 12 => exact h
        | 13 => exact h
        | 14 => exact h
        | 15 => exact h
        | 16 => exact h
        | 17 => exact h
        | 18 => exact h
        | 19 => exact h
        | 20 => exact h
        | 22 => exact h
        | 23 => exact h
        | 24 => exact h
        | 21 => (obtain ⟨A, c, h1, h2⟩ := h; exact ⟨A, c, h1, h2.below hb⟩)
        | n + 25 => exact trivial) (fun g hg v W h => by
        simp only [List.mem_cons, List.not_mem_nil, or_false] at hg
        rcases hg with rfl | rfl | rfl | rfl <;>
        exact h) ?_ ?_
    refine ⟨?_, ?_, ?_, ?_, ?_, ?_, ?_, ?_, ?_, ?_, ?_, ?_, ?_, ?_, ?_, ?_, ?_, ?_, ?_, ?_, ?_, ?_, ?_, ?_, ?_, trivial⟩
    · as_aux_lemma =>
        intro a9 W2 K hb hdep hk hK
        replace hK : ∀ v w', (v = .int .i64 0) → Below W2.heap.size W2 w' → K (a9.put (some 83) v) w' := hK
        have d9 : a9.tmps.getD 9 undef = .int .i64 0 := hk 9 (by kernel_rfl)
        clear hdep hk
        go_simp
        exact hK _ _ rfl (Below.refl _ _)
    · as_aux_lemma =>
        intro a9 W2 K hb hdep hk hK
        replace hK : ∀ v w', (v = .bool false) → Below W2.heap.size W2 w' → K (a9.put (some 84) v) w' := hK
        have d83 : a9.tmps.getD 83 undef = .int .i64 0 := hdep ⟨0, .data⟩ (by simp) rfl
        clear hdep hk
        go_simp
        exact hK _ _ rfl (Below.refl _ _)
    · as_aux_lemma =>
        intro a9 W2 K hb hdep hk hK
        replace hK : ∀ v w', (v = .bool false) → Below W2.heap.size W2 w' → K (a9.put (some 85) v) w' := hK
        have d84 : a9.tmps.getD 84 undef = .bool false := hdep ⟨1, .data⟩ (by simp) rfl
        clear hdep hk
        go_simp
        exact hK _ _ rfl (Below.refl _ _)
    · as_aux_lemma =>
        intro a9 W2 K hb hdep hk hK
        replace hK : ∀ v w', (v = .int .i64 0) → Below W2.heap.size W2 w' → K (a9.put (some 86) v) w' := hK
        have d11 : a9.tmps.getD 11 undef = .int .i64 0 := hk 11 (by kernel_rfl)
        clear hdep hk
        go_simp
        exact hK _ _ rfl (Below.refl _ _)
    · as_aux_lemma =>
        intro a9 W2 K hb hdep hk hK
        replace hK : ∀ v w', (v = .bool false) → Below W2.heap.size W2 w' → K (a9.put (some 87) v) w' := hK
        have d86 : a9.tmps.getD 86 undef = .int .i64 0 := hdep ⟨3, .data⟩ (by simp) rfl
        clear hdep hk
        go_simp
        exact hK _ _ rfl (Below.refl _ _)
    · as_aux_lemma =>
        intro a9 W2 K hb hdep hk hK
        replace hK : ∀ v w', (v = .bool false) → Below W2.heap.size W2 w' → K (a9.put (some 88) v) w' := hK
        have d85 : a9.tmps.getD 85 undef = .bool false := hdep ⟨2, .data⟩ (by simp) rfl
        have d87 : a9.tmps.getD 87 undef = .bool false := hdep ⟨4, .data⟩ (by simp) rfl
        clear hdep hk
        go_simp
        exact hK _ _ rfl (Below.refl _ _)
    · as_aux_lemma =>
        intro a9 W2 K hb hdep hk hK
        replace hK : ∀ v w', (v = .bool false) → Below W2.heap.size W2 w' → K (a9.put (some 89) v) w' := hK
        have d88 : a9.tmps.getD 88 undef = .bool false := hdep ⟨5, .data⟩ (by simp) rfl
        clear hdep hk
        go_simp
        exact hK _ _ rfl (Below.refl _ _)
    · as_aux_lemma =>
        intro a9 W2 K hb hdep hk hK
        replace hK : ∀ v w', (v = vg v9) → Below W2.heap.size W2 w' → K (a9.put (some 90) v) w' := hK
        have d7 : a9.tmps.getD 7 undef = .pointer (some ⟨w4.heap.size, 0, none⟩) := hk 7 (by kernel_rfl)
        have t0 := (hb.cell (p := ⟨w4.heap.size, 0, none⟩) z1_w10).trans o_BV_0
        have t1 := (hb.cell (p := ⟨w4.heap.size, 1, none⟩) z1_w10).trans o_BV_1
        have t2 := (hb.cell (p := ⟨w4.heap.size, 2, none⟩) z1_w10).trans o_BV_2
        have t3 := (hb.cell (p := ⟨w4.heap.size, 3, none⟩) z1_w10).trans o_BV_3
        clear hdep hk
        go_simp
        exact hK _ _ rfl (Below.refl _ _)
    · as_aux_lemma =>
        intro a9 W2 K hb hdep hk hK
        replace hK : ∀ v w', (v = selfV f.id (.slice AC f.costs.length cC) (.slice AU f.ups.length cU) (.slice AI f.infos.length cI)) → Below W2.heap.size W2 w' → K (a9.put (some 91) v) w' := hK
        have d3 : a9.tmps.getD 3 undef = .pointer (some ⟨w.heap.size, 0, none⟩) := hk 3 (by kernel_rfl)
        have t0 := (hb.cell (p := ⟨w.heap.size, 0, none⟩) z0_w10).trans o_T_0
        have t1 := (hb.cell (p := ⟨w.heap.size, 1, none⟩) z0_w10).trans o_T_1
        have t2 := (hb.cell (p := ⟨w.heap.size, 2, none⟩) z0_w10).trans o_T_2
        have t3 := (hb.cell (p := ⟨w.heap.size, 3, none⟩) z0_w10).trans o_T_3
        clear hdep hk
        go_simp
        exact hK _ _ rfl (Below.refl _ _)
    · as_aux_lemma =>
        intro a9 W2 K hb hdep hk hK
        replace hK : ∀ v w', (v = vg v9) → Below W2.heap.size W2 w' → K (a9.put (some 92) v) w' := hK
        have d91 : a9.tmps.getD 91 undef = selfV f.id (.slice AC f.costs.length cC) (.slice AU f.ups.length cU) (.slice AI f.infos.length cI) := hdep ⟨8, .data⟩ (by simp) rfl
        have hcall := Lib.hid (tells_to hF.out (A_w10.out.below hb).r hv.out)
        clear hdep hk
        have q91 : a9.tmps[91]?.getD undef = selfV f.id (.slice AC f.costs.length cC) (.slice AU f.ups.length cU) (.slice AI f.infos.length cI) := by simpa [Array.getD_eq_getD_getElem?] using d91
        clear d91
        go_simp
        refine hcall.out.mono ?_
        rintro e w9 ⟨rfl, r2⟩
        exact hK _ _ rfl r2
    · as_aux_lemma =>
        intro a9 W2 K hb hdep hk hK
        replace hK : ∀ v w', (v = .bool false) → Below W2.heap.size W2 w' → K (a9.put (some 93) v) w' := hK
        have d90 : a9.tmps.getD 90 undef = vg v9 := hdep ⟨7, .data⟩ (by simp) rfl
        have d92 : a9.tmps.getD 92 undef = vg v9 := hdep ⟨9, .data⟩ (by simp) rfl
        clear hdep hk
        go_simp
        exact hK _ _ rfl (Below.refl _ _)
    · as_aux_lemma =>
        intro a9 W2 K hb hdep hk hK
        replace hK : ∀ v w', (v = .bool false) → Below W2.heap.size W2 w' → K (a9.put (some 94) v) w' := hK
        have d89 : a9.tmps.getD 89 undef = .bool false := hdep ⟨6, .data⟩ (by simp) rfl
        have d93 : a9.tmps.getD 93 undef = .bool false := hdep ⟨10, .data⟩ (by simp) rfl
        clear hdep hk
        go_simp
        exact hK _ _ rfl (Below.refl _ _)
    · as_aux_lemma =>
        intro a9 W2 K hb hdep hk hK
        replace hK : ∀ v w', (v = .bool false) → Below W2.heap.size W2 w' → K (a9.put (some 95) v) w' := hK
        have d94 : a9.tmps.getD 94 undef = .bool false := hdep ⟨11, .data⟩ (by simp) rfl
        clear hdep hk
        go_simp
        exact hK _ _ rfl (Below.refl _ _)
    · as_aux_lemma =>
        intro a9 W2 K hb hdep hk hK
        replace hK : ∀ v w', (v = .int .i64 ri) → Below W2.heap.size W2 w' → K (a9.put (some 96) v) w' := hK
        have d8 : a9.tmps.getD 8 undef = .int .i64 ri := hk 8 (by kernel_rfl)
        clear hdep hk
        go_simp
        exact hK _ _ rfl (Below.refl _ _)
    · as_aux_lemma =>
        intro a9 W2 K hb hdep hk hK
        replace hK : ∀ v w', (v = selfV f.id (.slice AC f.costs.length cC) (.slice AU f.ups.length cU) (.slice AI f.infos.length cI)) → Below W2.heap.size W2 w' → K (a9.put (some 97) v) w' := hK
        have d3 : a9.tmps.getD 3 undef = .pointer (some ⟨w.heap.size, 0, none⟩) := hk 3 (by kernel_rfl)
        have t0 := (hb.cell (p := ⟨w.heap.size, 0, none⟩) z0_w10).trans o_T_0
        have t1 := (hb.cell (p := ⟨w.heap.size, 1, none⟩) z0_w10).trans o_T_1
        have t2 := (hb.cell (p := ⟨w.heap.size, 2, none⟩) z0_w10).trans o_T_2
        have t3 := (hb.cell (p := ⟨w.heap.size, 3, none⟩) z0_w10).trans o_T_3
        clear hdep hk
        go_simp
        exact hK _ _ rfl (Below.refl _ _)
    · as_aux_lemma =>
        intro a9 W2 K hb hdep hk hK
        replace hK : ∀ v w', (v = .int .i64 ri) → Below W2.heap.size W2 w' → K (a9.put (some 98) v) w' := hK
        have d97 : a9.tmps.getD 97 undef = selfV f.id (.slice AC f.costs.length cC) (.slice AU f.ups.length cU) (.slice AI f.infos.length cI) := hdep ⟨14, .data⟩ (by simp) rfl
        have hcall := Lib.hid (root_to hF.out (A_w10.out.below hb).r hri.out)
        clear hdep hk
        have q97 : a9.tmps[97]?.getD undef = selfV f.id (.slice AC f.costs.length cC) (.slice AU f.ups.length cU) (.slice AI f.infos.length cI) := by simpa [Array.getD_eq_getD_getElem?] using d97
        clear d97
        go_simp
        refine hcall.out.mono ?_
        rintro e w9 ⟨rfl, r2⟩
        exact hK _ _ rfl r2
    · as_aux_lemma =>
        intro a9 W2 K hb hdep hk hK
        replace hK : ∀ v w', (v = .bool false) → Below W2.heap.size W2 w' → K (a9.put (some 99) v) w' := hK
        have d96 : a9.tmps.getD 96 undef = .int .i64 ri := hdep ⟨13, .data⟩ (by simp) rfl
        have d98 : a9.tmps.getD 98 undef = .int .i64 ri := hdep ⟨15, .data⟩ (by simp) rfl
        clear hdep hk
        go_simp
        exact hK _ _ rfl (Below.refl _ _)
    · as_aux_lemma =>
        intro a9 W2 K hb hdep hk hK
        replace hK : ∀ v w', (v = .bool false) → Below W2.heap.size W2 w' → K (a9.put (some 100) v) w' := hK
        have d95 : a9.tmps.getD 95 undef = .bool false := hdep ⟨12, .data⟩ (by simp) rfl
        have d99 : a9.tmps.getD 99 undef = .bool false := hdep ⟨16, .data⟩ (by simp) rfl
        clear hdep hk
        go_simp
        exact hK _ _ rfl (Below.refl _ _)
    · as_aux_lemma =>
        intro a9 W2 K hb hdep hk hK
        replace hK : ∀ v w', (v = .bool false) → Below W2.heap.size W2 w' → K (a9.put (some 101) v) w' := hK
        have d100 : a9.tmps.getD 100 undef = .bool false := hdep ⟨17, .data⟩ (by simp) rfl
        clear hdep hk
        go_simp
        exact hK _ _ rfl (Below.refl _ _)
    · as_aux_lemma =>
        intro a9 W2 K hb hdep hk hK
        replace hK : ∀ v w', (v = .slice A1 f.roles.length c1) → Below W2.heap.size W2 w' → K (a9.put (some 102) v) w' := hK
        have d10 : a9.tmps.getD 10 undef = .slice A1 f.roles.length c1 := hk 10 (by kernel_rfl)
        clear hdep hk
        go_simp
        exact hK _ _ rfl (Below.refl _ _)
    · as_aux_lemma =>
        intro a9 W2 K hb hdep hk hK
        replace hK : ∀ v w', (v = selfV f.id (.slice AC f.costs.length cC) (.slice AU f.ups.length cU) (.slice AI f.infos.length cI)) → Below W2.heap.size W2 w' → K (a9.put (some 103) v) w' := hK
        have d3 : a9.tmps.getD 3 undef = .pointer (some ⟨w.heap.size, 0, none⟩) := hk 3 (by kernel_rfl)
        have t0 := (hb.cell (p := ⟨w.heap.size, 0, none⟩) z0_w10).trans o_T_0
        have t1 := (hb.cell (p := ⟨w.heap.size, 1, none⟩) z0_w10).trans o_T_1
        have t2 := (hb.cell (p := ⟨w.heap.size, 2, none⟩) z0_w10).trans o_T_2
        have t3 := (hb.cell (p := ⟨w.heap.size, 3, none⟩) z0_w10).trans o_T_3
        clear hdep hk
        go_simp
        exact hK _ _ rfl (Below.refl _ _)
    · as_aux_lemma =>
        intro a9 W2 K hb hdep hk hK
        replace hK : ∀ v w', (∃ A c, v = .slice A f.roles.length c ∧ RowI w' A f.roles.length c f.roles) → Below W2.heap.size W2 w' → K (a9.put (some 104) v) w' := hK
        have d103 : a9.tmps.getD 103 undef = selfV f.id (.slice AC f.costs.length cC) (.slice AU f.ups.length cU) (.slice AI f.infos.length cI) := hdep ⟨20, .data⟩ (by simp) rfl
        have hcall := Lib.hid (r_roles hF.out (A_w10.out.below hb).r)
        clear hdep hk
        have q103 : a9.tmps[103]?.getD undef = selfV f.id (.slice AC f.costs.length cC) (.slice AU f.ups.length cU) (.slice AI f.infos.length cI) := by simpa [Array.getD_eq_getD_getElem?] using d103
        clear d103
        go_simp
        refine hcall.out.mono ?_
        rintro e w9 ⟨A8, c8, rfl, r1, r2⟩
        exact hK _ _ ⟨A8, c8, rfl, IntP.own_row r1⟩ r2
    · as_aux_lemma =>
        intro a9 W2 K hb hdep hk hK
        replace hK : ∀ v w', (v = .bool true) → Below W2.heap.size W2 w' → K (a9.put (some 105) v) w' := hK
        have d102 : a9.tmps.getD 102 undef = .slice A1 f.roles.length c1 := hdep ⟨19, .data⟩ (by simp) rfl
        obtain ⟨A8, c8, d104, r1⟩ : ∃ A c, a9.tmps.getD 104 undef = .slice A f.roles.length c ∧ RowI W2 A f.roles.length c f.roles := hdep ⟨21, .data⟩ (by simp) rfl
        have hcall := Lib.hid (same_true (R_w10.out.below hb) r1 rfl hrl.out)
        clear hdep hk
        have q102 : a9.tmps[102]?.getD undef = .slice A1 f.roles.length c1 := by simpa [Array.getD_eq_getD_getElem?] using d102
        clear d102
        have q104 : a9.tmps[104]?.getD undef = .slice A8 f.roles.length c8 := by simpa [Array.getD_eq_getD_getElem?] using d104
        clear d104
        go_simp
        refine hcall.out.mono ?_
        rintro e w9 ⟨rfl, r2⟩
        exact hK _ _ rfl r2
    · as_aux_lemma =>
        intro a9 W2 K hb hdep hk hK
        replace hK : ∀ v w', (v = .bool false) → Below W2.heap.size W2 w' → K (a9.put (some 106) v) w' := hK
        have d105 : a9.tmps.getD 105 undef = .bool true := hdep ⟨22, .data⟩ (by simp) rfl
        clear hdep hk
        go_simp
        exact hK _ _ rfl (Below.refl _ _)
    · as_aux_lemma =>
        intro a9 W2 K hb hdep hk hK
        replace hK : ∀ v w', (v = .bool false) → Below W2.heap.size W2 w' → K (a9.put (some 107) v) w' := hK
        have d101 : a9.tmps.getD 101 undef = .bool false := hdep ⟨18, .data⟩ (by simp) rfl
        have d106 : a9.tmps.getD 106 undef = .bool false := hdep ⟨23, .data⟩ (by simp) rfl
        clear hdep hk
        go_simp
        exact hK _ _ rfl (Below.refl _ _)
    intro af w11 hqw11 hsp hk hn hdf
    have hx24 : af.tmps.getD 107 undef = .bool false := hsp 24 (by decide)
    clear hsp
    have s0 : af.tmps.getD 0 undef = selfV s.id (.slice AC s.costs.length cC) (.slice AU s.ups.length cU) (.slice AI s.infos.length cI) := hk 0 (by kernel_rfl)
    have s1 : af.tmps.getD 1 undef = .int .i64 p := hk 1 (by kernel_rfl)
    have s2 : af.tmps.getD 2 undef = .int .i64 most := hk 2 (by kernel_rfl)
    have s3 : af.tmps.getD 3 undef = .pointer (some ⟨w.heap.size, 0, none⟩) := hk 3 (by kernel_rfl)
    have s6 : af.tmps.getD 6 undef = .bool false := hk 6 (by kernel_rfl)
    have s7 : af.tmps.getD 7 undef = .pointer (some ⟨w4.heap.size, 0, none⟩) := hk 7 (by kernel_rfl)
    have s8 : af.tmps.getD 8 undef = .int .i64 ri := hk 8 (by kernel_rfl)
    have s9 : af.tmps.getD 9 undef = .int .i64 0 := hk 9 (by kernel_rfl)
    have s10 : af.tmps.getD 10 undef = .slice A1 f.roles.length c1 := hk 10 (by kernel_rfl)
    have s11 : af.tmps.getD 11 undef = .int .i64 0 := hk 11 (by kernel_rfl)
    have s12 : af.tmps.getD 12 undef = .pointer (some ⟨w7.heap.size, 0, none⟩) := hk 12 (by kernel_rfl)
    have s13 : af.tmps.getD 13 undef = .bool ti := hk 13 (by kernel_rfl)
    have s14 : af.tmps.getD 14 undef = .int .i64 te := hk 14 (by kernel_rfl)
    have s107 : af.tmps.getD 107 undef = .bool false := hx24
    clear hk hx24
    obtain ⟨tm, df⟩ := af
    have e := arr_out tm 166 hn
    replace e : tm = #[tm.getD 0 undef, tm.getD 1 undef, tm.getD 2 undef, tm.getD 3 undef, tm.getD 4 undef, tm.getD 5 undef, tm.getD 6 undef, tm.getD 7 undef, tm.getD 8 undef, tm.getD 9 undef, tm.getD 10 undef, tm.getD 11 undef, tm.getD 12 undef, tm.getD 13 undef, tm.getD 14 undef, tm.getD 15 undef, tm.getD 16 undef, tm.getD 17 undef, tm.getD 18 undef, tm.getD 19 undef, tm.getD 20 undef, tm.getD 21 undef, tm.getD 22 undef, tm.getD 23 undef, tm.getD 24 undef, tm.getD 25 undef, tm.getD 26 undef, tm.getD 27 undef, tm.getD 28 undef, tm.getD 29 undef, tm.getD 30 undef, tm.getD 31 undef, tm.getD 32 undef, tm.getD 33 undef, tm.getD 34 undef, tm.getD 35 undef, tm.getD 36 undef, tm.getD 37 undef, tm.getD 38 undef, tm.getD 39 undef, tm.getD 40 undef, tm.getD 41 undef, tm.getD 42 undef, tm.getD 43 undef, tm.getD 44 undef, tm.getD 45 undef, tm.getD 46 undef, tm.getD 47 undef, tm.getD 48 undef, tm.getD 49 undef, tm.getD 50 undef, tm.getD 51 undef, tm.getD 52 undef, tm.getD 53 undef, tm.getD 54 undef, tm.getD 55 undef, tm.getD 56 undef, tm.getD 57 undef, tm.getD 58 undef, tm.getD 59 undef, tm.getD 60 undef, tm.getD 61 undef, tm.getD 62 undef, tm.getD 63 undef, tm.getD 64 undef, tm.getD 65 undef, tm.getD 66 undef, tm.getD 67 undef, tm.getD 68 undef, tm.getD 69 undef, tm.getD 70 undef, tm.getD 71 undef, tm.getD 72 undef, tm.getD 73 undef, tm.getD 74 undef, tm.getD 75 undef, tm.getD 76 undef, tm.getD 77 undef, tm.getD 78 undef, tm.getD 79 undef, tm.getD 80 undef, tm.getD 81 undef, tm.getD 82 undef, tm.getD 83 undef, tm.getD 84 undef, tm.getD 85 undef, tm.getD 86 undef, tm.getD 87 undef, tm.getD 88 undef, tm.getD 89 undef, tm.getD 90 undef, tm.getD 91 undef, tm.getD 92 undef, tm.getD 93 undef, tm.getD 94 undef, tm.getD 95 undef, tm.getD 96 undef, tm.getD 97 undef, tm.getD 98 undef, tm.getD 99 undef, tm.getD 100 undef, tm.getD 101 undef, tm.getD 102 undef, tm.getD 103 undef, tm.getD 104 undef, tm.getD 105 undef, tm.getD 106 undef, tm.getD 107 undef, tm.getD 108 undef, tm.getD 109 undef, tm.getD 110 undef, tm.getD 111 undef, tm.getD 112 undef, tm.getD 113 undef, tm.getD 114 undef, tm.getD 115 undef, tm.getD 116 undef, tm.getD 117 undef, tm.getD 118 undef, tm.getD 119 undef, tm.getD 120 undef, tm.getD 121 undef, tm.getD 122 undef, tm.getD 123 undef, tm.getD 124 undef, tm.getD 125 undef, tm.getD 126 undef, tm.getD 127 undef, tm.getD 128 undef, tm.getD 129 undef, tm.getD 130 undef, tm.getD 131 undef, tm.getD 132 undef, tm.getD 133 undef, tm.getD 134 undef, tm.getD 135 undef, tm.getD 136 undef, tm.getD 137 undef, tm.getD 138 undef, tm.getD 139 undef, tm.getD 140 undef, tm.getD 141 undef, tm.getD 142 undef, tm.getD 143 undef, tm.getD 144 undef, tm.getD 145 undef, tm.getD 146 undef, tm.getD 147 undef, tm.getD 148 undef, tm.getD 149 undef, tm.getD 150 undef, tm.getD 151 undef, tm.getD 152 undef, tm.getD 153 undef, tm.getD 154 undef, tm.getD 155 undef, tm.getD 156 undef, tm.getD 157 undef, tm.getD 158 undef, tm.getD 159 undef, tm.getD 160 undef, tm.getD 161 undef, tm.getD 162 undef, tm.getD 163 undef, tm.getD 164 undef, tm.getD 165 undef] := e
    simp only at s0 s1 s2 s3 s6 s7 s8 s9 s10 s11 s12 s13 s14 s107 hdf
    rw [s0, s1, s2, s3, s6, s7, s8, s9, s10, s11, s12, s13, s14, s107] at e
    subst hdf
    clear s0 s1 s2 s3 s6 s7 s8 s9 s10 s11 s12 s13 s14 s107 hn
    generalize tm.getD 4 undef = u4 at e
    generalize tm.getD 5 undef = u5 at e
    generalize tm.getD 15 undef = u15 at e
    generalize tm.getD 16 undef = u16 at e
    generalize tm.getD 17 undef = u17 at e
    generalize tm.getD 18 undef = u18 at e
    generalize tm.getD 19 undef = u19 at e
    generalize tm.getD 20 undef = u20 at e
    generalize tm.getD 21 undef = u21 at e
    generalize tm.getD 22 undef = u22 at e
    generalize tm.getD 23 undef = u23 at e
    generalize tm.getD 24 undef = u24 at e
    generalize tm.getD 25 undef = u25 at e
    generalize tm.getD 26 undef = u26 at e
    generalize tm.getD 27 undef = u27 at e
    generalize tm.getD 28 undef = u28 at e
    generalize tm.getD 29 undef = u29 at e
    generalize tm.getD 30 undef = u30 at e
    generalize tm.getD 31 undef = u31 at e
    generalize tm.getD 32 undef = u32 at e
    generalize tm.getD 33 undef = u33 at e
    generalize tm.getD 34 undef = u34 at e
    generalize tm.getD 35 undef = u35 at e
    generalize tm.getD 36 undef = u36 at e
    generalize tm.getD 37 undef = u37 at e
    generalize tm.getD 38 undef = u38 at e
    generalize tm.getD 39 undef = u39 at e
    generalize tm.getD 40 undef = u40 at e
    generalize tm.getD 41 undef = u41 at e
    generalize tm.getD 42 undef = u42 at e
    generalize tm.getD 43 undef = u43 at e
    generalize tm.getD 44 undef = u44 at e
    generalize tm.getD 45 undef = u45 at e
    generalize tm.getD 46 undef = u46 at e
    generalize tm.getD 47 undef = u47 at e
    generalize tm.getD 48 undef = u48 at e
    generalize tm.getD 49 undef = u49 at e
    generalize tm.getD 50 undef = u50 at e
    generalize tm.getD 51 undef = u51 at e
    generalize tm.getD 52 undef = u52 at e
    generalize tm.getD 53 undef = u53 at e
    generalize tm.getD 54 undef = u54 at e
    generalize tm.getD 55 undef = u55 at e
    generalize tm.getD 56 undef = u56 at e
    generalize tm.getD 57 undef = u57 at e
    generalize tm.getD 58 undef = u58 at e
    generalize tm.getD 59 undef = u59 at e
    generalize tm.getD 60 undef = u60 at e
    generalize tm.getD 61 undef = u61 at e
    generalize tm.getD 62 undef = u62 at e
    generalize tm.getD 63 undef = u63 at e
    generalize tm.getD 64 undef = u64 at e
    generalize tm.getD 65 undef = u65 at e
    generalize tm.getD 66 undef = u66 at e
    generalize tm.getD 67 undef = u67 at e
    generalize tm.getD 68 undef = u68 at e
    generalize tm.getD 69 undef = u69 at e
    generalize tm.getD 70 undef = u70 at e
    generalize tm.getD 71 undef = u71 at e
    generalize tm.getD 72 undef = u72 at e
    generalize tm.getD 73 undef = u73 at e
    generalize tm.getD 74 undef = u74 at e
    generalize tm.getD 75 undef = u75 at e
    generalize tm.getD 76 undef = u76 at e
    generalize tm.getD 77 undef = u77 at e
    generalize tm.getD 78 undef = u78 at e
    generalize tm.getD 79 undef = u79 at e
    generalize tm.getD 80 undef = u80 at e
    generalize tm.getD 81 undef = u81 at e
    generalize tm.getD 82 undef = u82 at e
    generalize tm.getD 83 undef = u83 at e
    generalize tm.getD 84 undef = u84 at e
    generalize tm.getD 85 undef = u85 at e
    generalize tm.getD 86 undef = u86 at e
    generalize tm.getD 87 undef = u87 at e
    generalize tm.getD 88 undef = u88 at e
    generalize tm.getD 89 undef = u89 at e
    generalize tm.getD 90 undef = u90 at e
    generalize tm.getD 91 undef = u91 at e
    generalize tm.getD 92 undef = u92 at e
    generalize tm.getD 93 undef = u93 at e
    generalize tm.getD 94 undef = u94 at e
    generalize tm.getD 95 undef = u95 at e
    generalize tm.getD 96 undef = u96 at e
    generalize tm.getD 97 undef = u97 at e
    generalize tm.getD 98 undef = u98 at e
    generalize tm.getD 99 undef = u99 at e
    generalize tm.getD 100 undef = u100 at e
    generalize tm.getD 101 undef = u101 at e
    generalize tm.getD 102 undef = u102 at e
    generalize tm.getD 103 undef = u103 at e
    generalize tm.getD 104 undef = u104 at e
    generalize tm.getD 105 undef = u105 at e
    generalize tm.getD 106 undef = u106 at e
    generalize tm.getD 108 undef = u108 at e
    generalize tm.getD 109 undef = u109 at e
    generalize tm.getD 110 undef = u110 at e
    generalize tm.getD 111 undef = u111 at e
    generalize tm.getD 112 undef = u112 at e
    generalize tm.getD 113 undef = u113 at e
    generalize tm.getD 114 undef = u114 at e
    generalize tm.getD 115 undef = u115 at e
    generalize tm.getD 116 undef = u116 at e
    generalize tm.getD 117 undef = u117 at e
    generalize tm.getD 118 undef = u118 at e
    generalize tm.getD 119 undef = u119 at e
    generalize tm.getD 120 undef = u120 at e
    generalize tm.getD 121 undef = u121 at e
    generalize tm.getD 122 undef = u122 at e
    generalize tm.getD 123 undef = u123 at e
    generalize tm.getD 124 undef = u124 at e
    generalize tm.getD 125 undef = u125 at e
    generalize tm.getD 126 undef = u126 at e
    generalize tm.getD 127 undef = u127 at e
    generalize tm.getD 128 undef = u128 at e
    generalize tm.getD 129 undef = u129 at e
    generalize tm.getD 130 undef = u130 at e
    generalize tm.getD 131 undef = u131 at e
    generalize tm.getD 132 undef = u132 at e
    generalize tm.getD 133 undef = u133 at e
    generalize tm.getD 134 undef = u134 at e
    generalize tm.getD 135 undef = u135 at e
    generalize tm.getD 136 undef = u136 at e
    generalize tm.getD 137 undef = u137 at e
    generalize tm.getD 138 undef = u138 at e
    generalize tm.getD 139 undef = u139 at e
    generalize tm.getD 140 undef = u140 at e
    generalize tm.getD 141 undef = u141 at e
    generalize tm.getD 142 undef = u142 at e
    generalize tm.getD 143 undef = u143 at e
    generalize tm.getD 144 undef = u144 at e
    generalize tm.getD 145 undef = u145 at e
    generalize tm.getD 146 undef = u146 at e
    generalize tm.getD 147 undef = u147 at e
    generalize tm.getD 148 undef = u148 at e
    generalize tm.getD 149 undef = u149 at e
    generalize tm.getD 150 undef = u150 at e
    generalize tm.getD 151 undef = u151 at e
    generalize tm.getD 152 undef = u152 at e
    generalize tm.getD 153 undef = u153 at e
    generalize tm.getD 154 undef = u154 at e
    generalize tm.getD 155 undef = u155 at e
    generalize tm.getD 156 undef = u156 at e
    generalize tm.getD 157 undef = u157 at e
    generalize tm.getD 158 undef = u158 at e
    generalize tm.getD 159 undef = u159 at e
    generalize tm.getD 160 undef = u160 at e
    generalize tm.getD 161 undef = u161 at e
    generalize tm.getD 162 undef = u162 at e
    generalize tm.getD 163 undef = u163 at e
    generalize tm.getD 164 undef = u164 at e
    generalize tm.getD 165 undef = u165 at e
    subst e
    have T_w11 := Lib.hid (T_w10.out.below hqw11)
    have A_w11 := Lib.hid (A_w10.out.below hqw11)
    have BV_w11 := Lib.hid (BV_w10.out.below hqw11)
    have R_w11 := Lib.hid (R_w10.out.below hqw11)
    have BC_w11 := Lib.hid (BC_w10.out.below hqw11)
    have z0_w11 : w.heap.size < w11.heap.size := Nat.lt_of_lt_of_le z0_w10 hqw11.size
    have z1_w11 : w4.heap.size < w11.heap.size := Nat.lt_of_lt_of_le z1_w10 hqw11.size
    have z2_w11 : w7.heap.size < w11.heap.size := Nat.lt_of_lt_of_le z2_w10 hqw11.size
    have B_w11 := bt B_w10 hqw11
    clear T_w10 A_w10 BV_w10 R_w10 BC_w10 z0_w10 z1_w10 z2_w10 B_w10 hqw11
    simp only [Exit.then]
    clear o_T_0 o_T_1 o_T_2 o_T_3 o_BV_0 o_BV_1 o_BV_2 o_BV_3
    rcases hW.out with ⟨h1, rfl, rfl, rfl, rfl⟩ | ⟨⟨h1, h1'⟩, h2, rfl, rfl, rfl, rfl⟩ | ⟨kp, rfl, h1, h2, h3, e1, e2, e3, rfl⟩
    · have o_T_0 := T_w11.out.c (i := 0) rfl
      have o_T_1 := T_w11.out.c (i := 1) rfl
      have o_T_2 := T_w11.out.c (i := 2) rfl
      have o_T_3 := T_w11.out.c (i := 3) rfl
      have o_BC_0 := BC_w11.out.c (i := 0) rfl
      have o_BC_1 := BC_w11.out.c (i := 1) rfl
      have o_BC_2 := BC_w11.out.c (i := 2) rfl
      have o_BC_3 := BC_w11.out.c (i := 3) rfl
      have o_BC_4 := BC_w11.out.c (i := 4) rfl
      by_cases h3 : p < 0
      · go_wp2_with fail
        go_ret
        exact ⟨rfl, B_w11⟩
      · have h4 : (f.costs.length : Int) ≤ p := by omega
        go_wp2_with fail
        go_ret
        exact ⟨rfl, B_w11⟩
    · have o_T_0 := T_w11.out.c (i := 0) rfl
      have o_T_1 := T_w11.out.c (i := 1) rfl
      have o_T_2 := T_w11.out.c (i := 2) rfl
      have o_T_3 := T_w11.out.c (i := 3) rfl
      have o_BC_0 := BC_w11.out.c (i := 0) rfl
      have o_BC_1 := BC_w11.out.c (i := 1) rfl
      have o_BC_2 := BC_w11.out.c (i := 2) rfl
      have o_BC_3 := BC_w11.out.c (i := 3) rfl
      have o_BC_4 := BC_w11.out.c (i := 4) rfl
      have h3 : ¬ p < 0 := by omega
      have h4 : ¬ (f.costs.length : Int) ≤ p := by omega
      by_cases h5 : most < 1
      · go_wp2_with fail
        go_ret
        exact ⟨rfl, B_w11⟩
      · have h6 : (255 : Int) < most := by omega
        go_wp2_with fail
        go_ret
        exact ⟨rfl, B_w11⟩
    · have h4 : ¬ (kp : Int) < 0 := by omega
      have h5 : ¬ (f.costs.length : Int) ≤ (kp : Int) := by omega
      have h6 : ¬ most < 1 := by omega
      have h7 : ¬ (255 : Int) < most := by omega
      replace e1 := Lib.hid e1
      replace e2 := Lib.hid e2
      replace e3 := Lib.hid e3
      have hE := fun w => eql_cc cv ca w
      have o_T_0 := T_w11.out.c (i := 0) rfl
      have o_T_1 := T_w11.out.c (i := 1) rfl
      have o_T_2 := T_w11.out.c (i := 2) rfl
      have o_T_3 := T_w11.out.c (i := 3) rfl
      go_wp2_with fail
      clear o_T_0 o_T_1 o_T_2 o_T_3
      go_at_call 18
      (with_reducible refine (tell_to hok.out h1 e1.out e2.out e3.out A_w11.out).mono ?_)
      rintro e w12 ⟨rfl, hb12⟩
      have T_w12 := Lib.hid (T_w11.out.below hb12)
      have A_w12 := Lib.hid (A_w11.out.below hb12)
      have BV_w12 := Lib.hid (BV_w11.out.below hb12)
      have R_w12 := Lib.hid (R_w11.out.below hb12)
      have BC_w12 := Lib.hid (BC_w11.out.below hb12)
      have z0_w12 : w.heap.size < w12.heap.size := Nat.lt_of_lt_of_le z0_w11 hb12.size
      have z1_w12 : w4.heap.size < w12.heap.size := Nat.lt_of_lt_of_le z1_w11 hb12.size
      have z2_w12 : w7.heap.size < w12.heap.size := Nat.lt_of_lt_of_le z2_w11 hb12.size
      have B_w12 := bt B_w11 hb12
      clear T_w11 A_w11 BV_w11 R_w11 BC_w11 z0_w11 z1_w11 z2_w11 B_w11 hb12
      have o_BC_0 := BC_w12.out.c (i := 0) rfl
      have o_BC_1 := BC_w12.out.c (i := 1) rfl
      have o_BC_2 := BC_w12.out.c (i := 2) rfl
      have o_BC_3 := BC_w12.out.c (i := 3) rfl
      have o_BC_4 := BC_w12.out.c (i := 4) rfl
      go_wp2_with fail
      go_ret
      exact ⟨by cases ti <;> rfl, bt B_w12 ((Below.refl _ _).alloc (Nat.le_refl _) _)⟩
end Go.Proofs.Ytdnpcpehjjildaa.RoleP
