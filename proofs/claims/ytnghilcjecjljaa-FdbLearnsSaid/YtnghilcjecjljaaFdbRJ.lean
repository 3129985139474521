/-
  FdbLearns whole.
-/
import Derived.Test.YtnghilcjecjljaaFdbRG
import Derived.Test.YtnghilcjecjljaaFdbX
import Derived.Test.YtnghilcjecjljaaFdbU
import Derived.OpenShut
namespace Go.Proofs.Ytnghilcjecjljaa.FdbP
open Go.RowKit Go.Sort Go.Proofs.Ytnghilcjecjljaa.SliceP Go.Proofs.Ytnghilcjecjljaa.MacP
set_option linter.unusedVariables false
set_option maxRecDepth 100000

theorem new_no {n s ag : Int} {w : World} (hn : n ≤ 9223372036854775807) (h : sizesB n s ag = false) : Calls Try.prog 9 #[.int .i64 n, .int .i64 s, .int .i64 ag] w (RetTab w [] 0 0 2) := fdNew n s ag w hn false h
theorem learn_no {A : Option Addr} {n c : Nat} {bs : List (List E)} {s ag a port now : Int} {w : World} (ht : TabS w A n c bs) (hs : Small bs) (h : learnOk bs s ag a port now = false) : Calls Try.prog 10 #[tbv (.slice A n c) s ag, .int .i64 a, .int .i64 port, .int .i64 now] w (RetTab w [] 0 0 1) := fdLearn s ag a port now ht hs false h
theorem small_nil : Small [] := ⟨by simp, fun _ h => by cases h⟩
set_option maxHeartbeats 64000000 in
theorem learns_law (nq sq gq : Int) (v : Value) (a port now : Int) {w : World} (h0 : (Lit.int .i64 nq).wf = true) (_h1 : (Lit.int .i64 sq).wf = true) (_h2 : (Lit.int .i64 gq).wf = true) (h : InTab w v) (_h4 : (Lit.int .i64 a).wf = true) (_h5 : (Lit.int .i64 port).wf = true) (_h6 : (Lit.int .i64 now).wf = true) :
    Calls Try.prog 3 #[.int .i64 nq, .int .i64 sq, .int .i64 gq, v, .int .i64 a, .int .i64 port, .int .i64 now] w (IntP.True1 w) := by
  have hn0 : nq ≤ 9223372036854775807 := (bounds_i64 h0).2
  clear h0 _h1 _h2 _h4 _h5 _h6
  obtain ⟨A0, n0, c0, rs, bs0, s, ag, rfl, hT⟩ := h
  have HT := Lib.hid hT
  clear hT
  go_enter Try.func3, Try.ntmps3
  go_wp2_with fail
  obtain ⟨w1, hw1⟩ : ∃ W, W = w.alloc (.cells #[.slice A0 n0 c0, .int .i64 s, .int .i64 ag] 24) := ⟨_, rfl⟩
  have bw1 : Below w.heap.size w w1 := by rw [hw1]; exact (Below.refl _ _).alloc (Nat.le_refl _) _
  have Xw1 : Bx w1 w.heap.size 24 #[.slice A0 n0 c0, .int .i64 s, .int .i64 ag] := by rw [hw1]; exact Bx.new _ _ _ rfl
  rw [← hw1]
  clear hw1
  have T0_w1 := Lib.hid (Xw1)
  have z0_w1 : w.heap.size < w1.heap.size := Xw1.lt
  clear Xw1
  go_at_call 8
  (with_reducible refine (few_in s ag HT.out bw1 z0_w1).mono ?_)
  rintro e w2 ⟨A, n, c, rfl, T, hb2⟩
  have T0_w2 := Lib.hid (T0_w1.out.below hb2)
  have T_w2 := Lib.hid (T)
  have z0_w2 : w.heap.size < w2.heap.size := Nat.lt_of_lt_of_le z0_w1 hb2.size
  have B_w2 := bt bw1 hb2
  clear T0_w1 z0_w1 bw1 hb2
  clear T
  have o_T0_0 := T0_w2.out.c (i := 0) rfl
  have o_T0_1 := T0_w2.out.c (i := 1) rfl
  have o_T0_2 := T0_w2.out.c (i := 2) rfl
  have p_T0_0 := T0_w2.out.f 0
  have p_T0_1 := T0_w2.out.f 1
  have p_T0_2 := T0_w2.out.f 2
  go_wp2_with fail
  clear o_T0_0 o_T0_1 o_T0_2 p_T0_0 p_T0_1 p_T0_2
  obtain ⟨w9, hw9⟩ : ∃ W, W = (((w2.setCell ⟨w.heap.size, 0, none⟩ (.slice A n c)).setCell ⟨w.heap.size, 1, none⟩ (.int .i64 s)).setCell ⟨w.heap.size, 2, none⟩ (.int .i64 ag)) := ⟨_, rfl⟩
  have B_w9 : Below w.heap.size w w9 := by rw [hw9]; exact below3 B_w2 (Nat.le_refl _) _ _ _
  have T0_w9 := Lib.hid (show Bx w9 w.heap.size 24 #[.slice A n c, .int .i64 s, .int .i64 ag] by rw [hw9]; exact T0_w2.out.three)
  have T_w9 := Lib.hid (show TabS w9 A n c (fewT bs0) by rw [hw9]; exact (T_w2.out.off (Off.three _ _ _ _)).tab)
  have z0_w9 : w.heap.size < w9.heap.size := T0_w9.out.lt
  have hsm := fewT_small bs0
  have hbl := fewT_bl bs0
  rw [← hw9]
  clear hw9 HT T0_w2 T_w2 B_w2 z0_w2
  generalize fewT bs0 = bs at *
  replace hsm := Lib.hid hsm
  replace hbl := Lib.hid hbl
  have hMac := Lib.hid fun W => r_mac_any a W
  have hTime := Lib.hid fun W => r_time_any now W
  have hPort := Lib.hid fun W => r_port_any port W
  have hSz := Lib.hid fun W => r_sizes_any nq sq gq W
  cases hsz : sizesB nq sq gq with
  | false =>
    rw [hsz] at hSz
    replace hsz := Lib.hid hsz
    cases hr : rightT bs s ag with
    | false =>
      have hlo : Hid (learnOk bs s ag a port now = false) := Lib.hid (by unfold learnOk; rw [hr]; rfl)
      have hfo : Hid (findOk bs s ag a now = false) := Lib.hid (by unfold findOk; rw [hr]; rfl)
      replace hr := Lib.hid hr
      go_wp2_with fail
      go_at_call 9
      (with_reducible refine (new_no hn0 hsz.out).mono ?_)
      rintro e w10 ⟨A1, n1, c1, rfl, T1, hb10⟩
      have T0_w10 := Lib.hid (T0_w9.out.below hb10)
      have T_w10 := Lib.hid (T_w9.out.below hb10)
      have T1_w10 := Lib.hid (T1)
      have z0_w10 : w.heap.size < w10.heap.size := Nat.lt_of_lt_of_le z0_w9 hb10.size
      have B_w10 := bt B_w9 hb10
      clear T0_w9 T_w9 z0_w9 B_w9 hb10
      clear T1
      have o_T0_0 := T0_w10.out.c (i := 0) rfl
      have o_T0_1 := T0_w10.out.c (i := 1) rfl
      have o_T0_2 := T0_w10.out.c (i := 2) rfl
      go_wp2_with fail
      clear o_T0_0 o_T0_1 o_T0_2
      obtain ⟨w11, hw11⟩ : ∃ W, W = w10.alloc (.cells #[.slice A1 n1 c1, .int .i64 0, .int .i64 0] 24) := ⟨_, rfl⟩
      have bw11 : Below w10.heap.size w10 w11 := by rw [hw11]; exact (Below.refl _ _).alloc (Nat.le_refl _) _
      have Xw11 : Bx w11 w10.heap.size 24 #[.slice A1 n1 c1, .int .i64 0, .int .i64 0] := by rw [hw11]; exact Bx.new _ _ _ rfl
      rw [← hw11]
      clear hw11
      have T0_w11 := Lib.hid (T0_w10.out.below bw11)
      have T_w11 := Lib.hid (T_w10.out.below bw11)
      have T1_w11 := Lib.hid (T1_w10.out.below bw11)
      have B1_w11 := Lib.hid (Xw11)
      have z0_w11 : w.heap.size < w11.heap.size := Nat.lt_of_lt_of_le z0_w10 bw11.size
      have B_w11 := bt B_w10 bw11
      clear T0_w10 T_w10 T1_w10 z0_w10 B_w10 bw11
      have z1_w11 : w10.heap.size < w11.heap.size := Xw11.lt
      clear Xw11
      go_at_call 10
      (with_reducible refine (learn_no T_w11.out hsm.out hlo.out).mono ?_)
      rintro e w12 ⟨A2, n2, c2, rfl, T2, hb12⟩
      have T0_w12 := Lib.hid (T0_w11.out.below hb12)
      have T_w12 := Lib.hid (T_w11.out.below hb12)
      have T1_w12 := Lib.hid (T1_w11.out.below hb12)
      have B1_w12 := Lib.hid (B1_w11.out.below hb12)
      have T2_w12 := Lib.hid (T2)
      have z0_w12 : w.heap.size < w12.heap.size := Nat.lt_of_lt_of_le z0_w11 hb12.size
      have z1_w12 : w10.heap.size < w12.heap.size := Nat.lt_of_lt_of_le z1_w11 hb12.size
      have B_w12 := bt B_w11 hb12
      clear T0_w11 T_w11 T1_w11 B1_w11 z0_w11 z1_w11 B_w11 hb12
      clear T2
      have o_T0_0 := T0_w12.out.c (i := 0) rfl
      have o_T0_1 := T0_w12.out.c (i := 1) rfl
      have o_T0_2 := T0_w12.out.c (i := 2) rfl
      go_wp2_with fail
      clear o_T0_0 o_T0_1 o_T0_2
      obtain ⟨w13, hw13⟩ : ∃ W, W = w12.alloc (.cells #[.slice A2 n2 c2, .int .i64 0, .int .i64 0] 24) := ⟨_, rfl⟩
      have bw13 : Below w12.heap.size w12 w13 := by rw [hw13]; exact (Below.refl _ _).alloc (Nat.le_refl _) _
      have Xw13 : Bx w13 w12.heap.size 24 #[.slice A2 n2 c2, .int .i64 0, .int .i64 0] := by rw [hw13]; exact Bx.new _ _ _ rfl
      rw [← hw13]
      clear hw13
      have T0_w13 := Lib.hid (T0_w12.out.below bw13)
      have T_w13 := Lib.hid (T_w12.out.below bw13)
      have T1_w13 := Lib.hid (T1_w12.out.below bw13)
      have B1_w13 := Lib.hid (B1_w12.out.below bw13)
      have T2_w13 := Lib.hid (T2_w12.out.below bw13)
      have B2_w13 := Lib.hid (Xw13)
      have z0_w13 : w.heap.size < w13.heap.size := Nat.lt_of_lt_of_le z0_w12 bw13.size
      have z1_w13 : w10.heap.size < w13.heap.size := Nat.lt_of_lt_of_le z1_w12 bw13.size
      have B_w13 := bt B_w12 bw13
      clear T0_w12 T_w12 T1_w12 B1_w12 T2_w12 z0_w12 z1_w12 B_w12 bw13
      have z2_w13 : w12.heap.size < w13.heap.size := Xw13.lt
      clear Xw13
      go_at_call 11
      (with_reducible refine (find_no T_w13.out hsm.out hfo.out).mono ?_)
      rintro e w14 ⟨rfl, hb14⟩
      have T0_w14 := Lib.hid (T0_w13.out.below hb14)
      have T_w14 := Lib.hid (T_w13.out.below hb14)
      have T1_w14 := Lib.hid (T1_w13.out.below hb14)
      have B1_w14 := Lib.hid (B1_w13.out.below hb14)
      have T2_w14 := Lib.hid (T2_w13.out.below hb14)
      have B2_w14 := Lib.hid (B2_w13.out.below hb14)
      have z0_w14 : w.heap.size < w14.heap.size := Nat.lt_of_lt_of_le z0_w13 hb14.size
      have z1_w14 : w10.heap.size < w14.heap.size := Nat.lt_of_lt_of_le z1_w13 hb14.size
      have z2_w14 : w12.heap.size < w14.heap.size := Nat.lt_of_lt_of_le z2_w13 hb14.size
      have B_w14 := bt B_w13 hb14
      clear T0_w13 T_w13 T1_w13 B1_w13 T2_w13 B2_w13 z0_w13 z1_w13 z2_w13 B_w13 hb14
      have o_T0_0 := T0_w14.out.c (i := 0) rfl
      have o_T0_1 := T0_w14.out.c (i := 1) rfl
      have o_T0_2 := T0_w14.out.c (i := 2) rfl
      go_wp2_with fail
      clear o_T0_0 o_T0_1 o_T0_2
      obtain ⟨w15, hw15⟩ : ∃ W, W = w14.alloc (.cells #[.slice none 0 0, .int .i64 0, .int .i64 0] 24) := ⟨_, rfl⟩
      have bw15 : Below w14.heap.size w14 w15 := by rw [hw15]; exact (Below.refl _ _).alloc (Nat.le_refl _) _
      have Xw15 : Bx w15 w14.heap.size 24 #[.slice none 0 0, .int .i64 0, .int .i64 0] := by rw [hw15]; exact Bx.new _ _ _ rfl
      rw [← hw15]
      clear hw15
      have T0_w15 := Lib.hid (T0_w14.out.below bw15)
      have T_w15 := Lib.hid (T_w14.out.below bw15)
      have T1_w15 := Lib.hid (T1_w14.out.below bw15)
      have B1_w15 := Lib.hid (B1_w14.out.below bw15)
      have T2_w15 := Lib.hid (T2_w14.out.below bw15)
      have B2_w15 := Lib.hid (B2_w14.out.below bw15)
      have None_w15 := Lib.hid (Xw15)
      have z0_w15 : w.heap.size < w15.heap.size := Nat.lt_of_lt_of_le z0_w14 bw15.size
      have z1_w15 : w10.heap.size < w15.heap.size := Nat.lt_of_lt_of_le z1_w14 bw15.size
      have z2_w15 : w12.heap.size < w15.heap.size := Nat.lt_of_lt_of_le z2_w14 bw15.size
      have B_w15 := bt B_w14 bw15
      clear T0_w14 T_w14 T1_w14 B1_w14 T2_w14 B2_w14 z0_w14 z1_w14 z2_w14 B_w14 bw15
      have z3_w15 : w14.heap.size < w15.heap.size := Xw15.lt
      clear Xw15
      have K_T0_0 := cell_regrown (T0_w15.out.c (i := 0) rfl)
      have K_T0_1 := cell_regrown (T0_w15.out.c (i := 1) rfl)
      have K_T0_2 := cell_regrown (T0_w15.out.c (i := 2) rfl)
      have cC0 := fun (d : Nat) (os : Array Obj) => Calls.regrown_of (fdRight s ag (T_w15.out.below (below_regrown w15 d os)) hsm.out _ hr.out)
      have cC1 := fun (d : Nat) (os : Array Obj) => Calls.regrown_of (r_right s ag (T_w15.out.below (below_regrown w15 d os)) hsm.out _ hr.out)
      have cC2 := fun (d : Nat) (os : Array Obj) => Calls.regrown_of (alive_any (Go.Sort.grow (redrawn w15 d) os))
      refine wp_region_quiet_below (by kernel_rfl) (by kernel_rfl) ?_
      repeat (first | go_big_quiet_step (first | with_reducible exact cC0 _ _ | with_reducible exact cC1 _ _ | with_reducible exact cC2 _ _) | quiet_step (first | with_reducible exact cC0 _ _ | with_reducible exact cC1 _ _ | with_reducible exact cC2 _ _))
      refine wpQuiet_nil ?_
      intro _ hw'
      obtain ⟨⟨dq, osq⟩, hw''⟩ := hw'
      subst hw''
      have hqw16 := below_regrown w15 dq osq
      clear K_T0_0 K_T0_1 K_T0_2 cC0 cC1 cC2
      generalize Go.Sort.grow (redrawn w15 dq) osq = w16 at *
      have T0_w16 := Lib.hid (T0_w15.out.below hqw16)
      have T_w16 := Lib.hid (T_w15.out.below hqw16)
      have T1_w16 := Lib.hid (T1_w15.out.below hqw16)
      have B1_w16 := Lib.hid (B1_w15.out.below hqw16)
      have T2_w16 := Lib.hid (T2_w15.out.below hqw16)
      have B2_w16 := Lib.hid (B2_w15.out.below hqw16)
      have None_w16 := Lib.hid (None_w15.out.below hqw16)
      have z0_w16 : w.heap.size < w16.heap.size := Nat.lt_of_lt_of_le z0_w15 hqw16.size
      have z1_w16 : w10.heap.size < w16.heap.size := Nat.lt_of_lt_of_le z1_w15 hqw16.size
      have z2_w16 : w12.heap.size < w16.heap.size := Nat.lt_of_lt_of_le z2_w15 hqw16.size
      have z3_w16 : w14.heap.size < w16.heap.size := Nat.lt_of_lt_of_le z3_w15 hqw16.size
      have B_w16 := bt B_w15 hqw16
      clear T0_w15 T_w15 T1_w15 B1_w15 T2_w15 B2_w15 None_w15 z0_w15 z1_w15 z2_w15 z3_w15 B_w15 hqw16
      go_wp2_with fail
      go_at_call 15
      (with_reducible refine (hSz.out _).mono ?_)
      rintro e w' ⟨rfl, rfl⟩
      have o_B1_0 := B1_w16.out.c (i := 0) rfl
      have o_B1_1 := B1_w16.out.c (i := 1) rfl
      have o_B1_2 := B1_w16.out.c (i := 2) rfl
      have o_None_0 := None_w16.out.c (i := 0) rfl
      have o_None_1 := None_w16.out.c (i := 1) rfl
      have o_None_2 := None_w16.out.c (i := 2) rfl
      go_wp2_with fail
      clear o_B1_0 o_B1_1 o_B1_2 o_None_0 o_None_1 o_None_2
      go_at_call 16
      (with_reducible refine (r_same 0 0 T1_w16.out.tab (TabS.empty _) small_nil).mono ?_)
      rintro e w17 ⟨rfl, hb17⟩
      have T0_w17 := Lib.hid (T0_w16.out.below hb17)
      have T_w17 := Lib.hid (T_w16.out.below hb17)
      have T1_w17 := Lib.hid (T1_w16.out.below hb17)
      have B1_w17 := Lib.hid (B1_w16.out.below hb17)
      have T2_w17 := Lib.hid (T2_w16.out.below hb17)
      have B2_w17 := Lib.hid (B2_w16.out.below hb17)
      have None_w17 := Lib.hid (None_w16.out.below hb17)
      have z0_w17 : w.heap.size < w17.heap.size := Nat.lt_of_lt_of_le z0_w16 hb17.size
      have z1_w17 : w10.heap.size < w17.heap.size := Nat.lt_of_lt_of_le z1_w16 hb17.size
      have z2_w17 : w12.heap.size < w17.heap.size := Nat.lt_of_lt_of_le z2_w16 hb17.size
      have z3_w17 : w14.heap.size < w17.heap.size := Nat.lt_of_lt_of_le z3_w16 hb17.size
      have B_w17 := bt B_w16 hb17
      clear T0_w16 T_w16 T1_w16 B1_w16 T2_w16 B2_w16 None_w16 z0_w16 z1_w16 z2_w16 z3_w16 B_w16 hb17
      have o_T0_0 := T0_w17.out.c (i := 0) rfl
      have o_T0_1 := T0_w17.out.c (i := 1) rfl
      have o_T0_2 := T0_w17.out.c (i := 2) rfl
      go_wp2_with fail
      clear o_T0_0 o_T0_1 o_T0_2
      go_at_call 13
      (with_reducible refine (r_right s ag T_w17.out hsm.out _ hr.out).mono ?_)
      rintro e w18 ⟨rfl, hb18⟩
      have T0_w18 := Lib.hid (T0_w17.out.below hb18)
      have T_w18 := Lib.hid (T_w17.out.below hb18)
      have T1_w18 := Lib.hid (T1_w17.out.below hb18)
      have B1_w18 := Lib.hid (B1_w17.out.below hb18)
      have T2_w18 := Lib.hid (T2_w17.out.below hb18)
      have B2_w18 := Lib.hid (B2_w17.out.below hb18)
      have None_w18 := Lib.hid (None_w17.out.below hb18)
      have z0_w18 : w.heap.size < w18.heap.size := Nat.lt_of_lt_of_le z0_w17 hb18.size
      have z1_w18 : w10.heap.size < w18.heap.size := Nat.lt_of_lt_of_le z1_w17 hb18.size
      have z2_w18 : w12.heap.size < w18.heap.size := Nat.lt_of_lt_of_le z2_w17 hb18.size
      have z3_w18 : w14.heap.size < w18.heap.size := Nat.lt_of_lt_of_le z3_w17 hb18.size
      have B_w18 := bt B_w17 hb18
      clear T0_w17 T_w17 T1_w17 B1_w17 T2_w17 B2_w17 None_w17 z0_w17 z1_w17 z2_w17 z3_w17 B_w17 hb18
      have o_B2_0 := B2_w18.out.c (i := 0) rfl
      have o_B2_1 := B2_w18.out.c (i := 1) rfl
      have o_B2_2 := B2_w18.out.c (i := 2) rfl
      have o_None_0 := None_w18.out.c (i := 0) rfl
      have o_None_1 := None_w18.out.c (i := 1) rfl
      have o_None_2 := None_w18.out.c (i := 2) rfl
      go_wp2_with fail
      clear o_B2_0 o_B2_1 o_B2_2 o_None_0 o_None_1 o_None_2
      go_at_call 16
      (with_reducible refine (r_same 0 0 T2_w18.out.tab (TabS.empty _) small_nil).mono ?_)
      rintro e w19 ⟨rfl, hb19⟩
      have T0_w19 := Lib.hid (T0_w18.out.below hb19)
      have T_w19 := Lib.hid (T_w18.out.below hb19)
      have T1_w19 := Lib.hid (T1_w18.out.below hb19)
      have B1_w19 := Lib.hid (B1_w18.out.below hb19)
      have T2_w19 := Lib.hid (T2_w18.out.below hb19)
      have B2_w19 := Lib.hid (B2_w18.out.below hb19)
      have None_w19 := Lib.hid (None_w18.out.below hb19)
      have z0_w19 : w.heap.size < w19.heap.size := Nat.lt_of_lt_of_le z0_w18 hb19.size
      have z1_w19 : w10.heap.size < w19.heap.size := Nat.lt_of_lt_of_le z1_w18 hb19.size
      have z2_w19 : w12.heap.size < w19.heap.size := Nat.lt_of_lt_of_le z2_w18 hb19.size
      have z3_w19 : w14.heap.size < w19.heap.size := Nat.lt_of_lt_of_le z3_w18 hb19.size
      have B_w19 := bt B_w18 hb19
      clear T0_w18 T_w18 T1_w18 B1_w18 T2_w18 B2_w18 None_w18 z0_w18 z1_w18 z2_w18 z3_w18 B_w18 hb19
      go_wp2_with fail
      go_ret
      exact ⟨rfl, B_w19⟩
    | true =>
      have hnb2 := Lib.hid (right_sizes hr).1
      cases hm : macB a with
      | false =>
        rw [hm] at hMac
        have hlo : Hid (learnOk bs s ag a port now = false) := Lib.hid (by unfold learnOk; rw [hr, hm]; rfl)
        have hfo : Hid (findOk bs s ag a now = false) := Lib.hid (by unfold findOk; rw [hr, hm]; rfl)
        replace hr := Lib.hid hr
        replace hm := Lib.hid hm
        go_wp2_with fail
        go_at_call 9
        (with_reducible refine (new_no hn0 hsz.out).mono ?_)
        rintro e w10 ⟨A1, n1, c1, rfl, T1, hb10⟩
        have T0_w10 := Lib.hid (T0_w9.out.below hb10)
        have T_w10 := Lib.hid (T_w9.out.below hb10)
        have T1_w10 := Lib.hid (T1)
        have z0_w10 : w.heap.size < w10.heap.size := Nat.lt_of_lt_of_le z0_w9 hb10.size
        have B_w10 := bt B_w9 hb10
        clear T0_w9 T_w9 z0_w9 B_w9 hb10
        clear T1
        have o_T0_0 := T0_w10.out.c (i := 0) rfl
        have o_T0_1 := T0_w10.out.c (i := 1) rfl
        have o_T0_2 := T0_w10.out.c (i := 2) rfl
        go_wp2_with fail
        clear o_T0_0 o_T0_1 o_T0_2
        obtain ⟨w11, hw11⟩ : ∃ W, W = w10.alloc (.cells #[.slice A1 n1 c1, .int .i64 0, .int .i64 0] 24) := ⟨_, rfl⟩
        have bw11 : Below w10.heap.size w10 w11 := by rw [hw11]; exact (Below.refl _ _).alloc (Nat.le_refl _) _
        have Xw11 : Bx w11 w10.heap.size 24 #[.slice A1 n1 c1, .int .i64 0, .int .i64 0] := by rw [hw11]; exact Bx.new _ _ _ rfl
        rw [← hw11]
        clear hw11
        have T0_w11 := Lib.hid (T0_w10.out.below bw11)
        have T_w11 := Lib.hid (T_w10.out.below bw11)
        have T1_w11 := Lib.hid (T1_w10.out.below bw11)
        have B1_w11 := Lib.hid (Xw11)
        have z0_w11 : w.heap.size < w11.heap.size := Nat.lt_of_lt_of_le z0_w10 bw11.size
        have B_w11 := bt B_w10 bw11
        clear T0_w10 T_w10 T1_w10 z0_w10 B_w10 bw11
        have z1_w11 : w10.heap.size < w11.heap.size := Xw11.lt
        clear Xw11
        go_at_call 10
        (with_reducible refine (learn_no T_w11.out hsm.out hlo.out).mono ?_)
        rintro e w12 ⟨A2, n2, c2, rfl, T2, hb12⟩
        have T0_w12 := Lib.hid (T0_w11.out.below hb12)
        have T_w12 := Lib.hid (T_w11.out.below hb12)
        have T1_w12 := Lib.hid (T1_w11.out.below hb12)
        have B1_w12 := Lib.hid (B1_w11.out.below hb12)
        have T2_w12 := Lib.hid (T2)
        have z0_w12 : w.heap.size < w12.heap.size := Nat.lt_of_lt_of_le z0_w11 hb12.size
        have z1_w12 : w10.heap.size < w12.heap.size := Nat.lt_of_lt_of_le z1_w11 hb12.size
        have B_w12 := bt B_w11 hb12
        clear T0_w11 T_w11 T1_w11 B1_w11 z0_w11 z1_w11 B_w11 hb12
        clear T2
        have o_T0_0 := T0_w12.out.c (i := 0) rfl
        have o_T0_1 := T0_w12.out.c (i := 1) rfl
        have o_T0_2 := T0_w12.out.c (i := 2) rfl
        go_wp2_with fail
        clear o_T0_0 o_T0_1 o_T0_2
        obtain ⟨w13, hw13⟩ : ∃ W, W = w12.alloc (.cells #[.slice A2 n2 c2, .int .i64 0, .int .i64 0] 24) := ⟨_, rfl⟩
        have bw13 : Below w12.heap.size w12 w13 := by rw [hw13]; exact (Below.refl _ _).alloc (Nat.le_refl _) _
        have Xw13 : Bx w13 w12.heap.size 24 #[.slice A2 n2 c2, .int .i64 0, .int .i64 0] := by rw [hw13]; exact Bx.new _ _ _ rfl
        rw [← hw13]
        clear hw13
        have T0_w13 := Lib.hid (T0_w12.out.below bw13)
        have T_w13 := Lib.hid (T_w12.out.below bw13)
        have T1_w13 := Lib.hid (T1_w12.out.below bw13)
        have B1_w13 := Lib.hid (B1_w12.out.below bw13)
        have T2_w13 := Lib.hid (T2_w12.out.below bw13)
        have B2_w13 := Lib.hid (Xw13)
        have z0_w13 : w.heap.size < w13.heap.size := Nat.lt_of_lt_of_le z0_w12 bw13.size
        have z1_w13 : w10.heap.size < w13.heap.size := Nat.lt_of_lt_of_le z1_w12 bw13.size
        have B_w13 := bt B_w12 bw13
        clear T0_w12 T_w12 T1_w12 B1_w12 T2_w12 z0_w12 z1_w12 B_w12 bw13
        have z2_w13 : w12.heap.size < w13.heap.size := Xw13.lt
        clear Xw13
        go_at_call 11
        (with_reducible refine (find_no T_w13.out hsm.out hfo.out).mono ?_)
        rintro e w14 ⟨rfl, hb14⟩
        have T0_w14 := Lib.hid (T0_w13.out.below hb14)
        have T_w14 := Lib.hid (T_w13.out.below hb14)
        have T1_w14 := Lib.hid (T1_w13.out.below hb14)
        have B1_w14 := Lib.hid (B1_w13.out.below hb14)
        have T2_w14 := Lib.hid (T2_w13.out.below hb14)
        have B2_w14 := Lib.hid (B2_w13.out.below hb14)
        have z0_w14 : w.heap.size < w14.heap.size := Nat.lt_of_lt_of_le z0_w13 hb14.size
        have z1_w14 : w10.heap.size < w14.heap.size := Nat.lt_of_lt_of_le z1_w13 hb14.size
        have z2_w14 : w12.heap.size < w14.heap.size := Nat.lt_of_lt_of_le z2_w13 hb14.size
        have B_w14 := bt B_w13 hb14
        clear T0_w13 T_w13 T1_w13 B1_w13 T2_w13 B2_w13 z0_w13 z1_w13 z2_w13 B_w13 hb14
        have o_T0_0 := T0_w14.out.c (i := 0) rfl
        have o_T0_1 := T0_w14.out.c (i := 1) rfl
        have o_T0_2 := T0_w14.out.c (i := 2) rfl
        go_wp2_with fail
        clear o_T0_0 o_T0_1 o_T0_2
        obtain ⟨w15, hw15⟩ : ∃ W, W = w14.alloc (.cells #[.slice none 0 0, .int .i64 0, .int .i64 0] 24) := ⟨_, rfl⟩
        have bw15 : Below w14.heap.size w14 w15 := by rw [hw15]; exact (Below.refl _ _).alloc (Nat.le_refl _) _
        have Xw15 : Bx w15 w14.heap.size 24 #[.slice none 0 0, .int .i64 0, .int .i64 0] := by rw [hw15]; exact Bx.new _ _ _ rfl
        rw [← hw15]
        clear hw15
        have T0_w15 := Lib.hid (T0_w14.out.below bw15)
        have T_w15 := Lib.hid (T_w14.out.below bw15)
        have T1_w15 := Lib.hid (T1_w14.out.below bw15)
        have B1_w15 := Lib.hid (B1_w14.out.below bw15)
        have T2_w15 := Lib.hid (T2_w14.out.below bw15)
        have B2_w15 := Lib.hid (B2_w14.out.below bw15)
        have None_w15 := Lib.hid (Xw15)
        have z0_w15 : w.heap.size < w15.heap.size := Nat.lt_of_lt_of_le z0_w14 bw15.size
        have z1_w15 : w10.heap.size < w15.heap.size := Nat.lt_of_lt_of_le z1_w14 bw15.size
        have z2_w15 : w12.heap.size < w15.heap.size := Nat.lt_of_lt_of_le z2_w14 bw15.size
        have B_w15 := bt B_w14 bw15
        clear T0_w14 T_w14 T1_w14 B1_w14 T2_w14 B2_w14 z0_w14 z1_w14 z2_w14 B_w14 bw15
        have z3_w15 : w14.heap.size < w15.heap.size := Xw15.lt
        clear Xw15
        have K_T0_0 := cell_regrown (T0_w15.out.c (i := 0) rfl)
        have K_T0_1 := cell_regrown (T0_w15.out.c (i := 1) rfl)
        have K_T0_2 := cell_regrown (T0_w15.out.c (i := 2) rfl)
        have cC0 := fun (d : Nat) (os : Array Obj) => Calls.regrown_of (fdRight s ag (T_w15.out.below (below_regrown w15 d os)) hsm.out _ hr.out)
        have cC1 := fun (d : Nat) (os : Array Obj) => Calls.regrown_of (r_right s ag (T_w15.out.below (below_regrown w15 d os)) hsm.out _ hr.out)
        have cC2 := fun (d : Nat) (os : Array Obj) => Calls.regrown_of (alive_any (Go.Sort.grow (redrawn w15 d) os))
        refine wp_region_quiet_below (by kernel_rfl) (by kernel_rfl) ?_
        repeat (first | go_big_quiet_step (first | with_reducible exact cC0 _ _ | with_reducible exact cC1 _ _ | with_reducible exact cC2 _ _) | quiet_step (first | with_reducible exact cC0 _ _ | with_reducible exact cC1 _ _ | with_reducible exact cC2 _ _))
        refine wpQuiet_nil ?_
        intro _ hw'
        obtain ⟨⟨dq, osq⟩, hw''⟩ := hw'
        subst hw''
        have hqw16 := below_regrown w15 dq osq
        clear K_T0_0 K_T0_1 K_T0_2 cC0 cC1 cC2
        generalize Go.Sort.grow (redrawn w15 dq) osq = w16 at *
        have T0_w16 := Lib.hid (T0_w15.out.below hqw16)
        have T_w16 := Lib.hid (T_w15.out.below hqw16)
        have T1_w16 := Lib.hid (T1_w15.out.below hqw16)
        have B1_w16 := Lib.hid (B1_w15.out.below hqw16)
        have T2_w16 := Lib.hid (T2_w15.out.below hqw16)
        have B2_w16 := Lib.hid (B2_w15.out.below hqw16)
        have None_w16 := Lib.hid (None_w15.out.below hqw16)
        have z0_w16 : w.heap.size < w16.heap.size := Nat.lt_of_lt_of_le z0_w15 hqw16.size
        have z1_w16 : w10.heap.size < w16.heap.size := Nat.lt_of_lt_of_le z1_w15 hqw16.size
        have z2_w16 : w12.heap.size < w16.heap.size := Nat.lt_of_lt_of_le z2_w15 hqw16.size
        have z3_w16 : w14.heap.size < w16.heap.size := Nat.lt_of_lt_of_le z3_w15 hqw16.size
        have B_w16 := bt B_w15 hqw16
        clear T0_w15 T_w15 T1_w15 B1_w15 T2_w15 B2_w15 None_w15 z0_w15 z1_w15 z2_w15 z3_w15 B_w15 hqw16
        go_wp2_with fail
        go_at_call 15
        (with_reducible refine (hSz.out _).mono ?_)
        rintro e w' ⟨rfl, rfl⟩
        have o_B1_0 := B1_w16.out.c (i := 0) rfl
        have o_B1_1 := B1_w16.out.c (i := 1) rfl
        have o_B1_2 := B1_w16.out.c (i := 2) rfl
        have o_None_0 := None_w16.out.c (i := 0) rfl
        have o_None_1 := None_w16.out.c (i := 1) rfl
        have o_None_2 := None_w16.out.c (i := 2) rfl
        go_wp2_with fail
        clear o_B1_0 o_B1_1 o_B1_2 o_None_0 o_None_1 o_None_2
        go_at_call 16
        (with_reducible refine (r_same 0 0 T1_w16.out.tab (TabS.empty _) small_nil).mono ?_)
        rintro e w17 ⟨rfl, hb17⟩
        have T0_w17 := Lib.hid (T0_w16.out.below hb17)
        have T_w17 := Lib.hid (T_w16.out.below hb17)
        have T1_w17 := Lib.hid (T1_w16.out.below hb17)
        have B1_w17 := Lib.hid (B1_w16.out.below hb17)
        have T2_w17 := Lib.hid (T2_w16.out.below hb17)
        have B2_w17 := Lib.hid (B2_w16.out.below hb17)
        have None_w17 := Lib.hid (None_w16.out.below hb17)
        have z0_w17 : w.heap.size < w17.heap.size := Nat.lt_of_lt_of_le z0_w16 hb17.size
        have z1_w17 : w10.heap.size < w17.heap.size := Nat.lt_of_lt_of_le z1_w16 hb17.size
        have z2_w17 : w12.heap.size < w17.heap.size := Nat.lt_of_lt_of_le z2_w16 hb17.size
        have z3_w17 : w14.heap.size < w17.heap.size := Nat.lt_of_lt_of_le z3_w16 hb17.size
        have B_w17 := bt B_w16 hb17
        clear T0_w16 T_w16 T1_w16 B1_w16 T2_w16 B2_w16 None_w16 z0_w16 z1_w16 z2_w16 z3_w16 B_w16 hb17
        have o_T0_0 := T0_w17.out.c (i := 0) rfl
        have o_T0_1 := T0_w17.out.c (i := 1) rfl
        have o_T0_2 := T0_w17.out.c (i := 2) rfl
        go_wp2_with fail
        clear o_T0_0 o_T0_1 o_T0_2
        go_at_call 13
        (with_reducible refine (r_right s ag T_w17.out hsm.out _ hr.out).mono ?_)
        rintro e w18 ⟨rfl, hb18⟩
        have T0_w18 := Lib.hid (T0_w17.out.below hb18)
        have T_w18 := Lib.hid (T_w17.out.below hb18)
        have T1_w18 := Lib.hid (T1_w17.out.below hb18)
        have B1_w18 := Lib.hid (B1_w17.out.below hb18)
        have T2_w18 := Lib.hid (T2_w17.out.below hb18)
        have B2_w18 := Lib.hid (B2_w17.out.below hb18)
        have None_w18 := Lib.hid (None_w17.out.below hb18)
        have z0_w18 : w.heap.size < w18.heap.size := Nat.lt_of_lt_of_le z0_w17 hb18.size
        have z1_w18 : w10.heap.size < w18.heap.size := Nat.lt_of_lt_of_le z1_w17 hb18.size
        have z2_w18 : w12.heap.size < w18.heap.size := Nat.lt_of_lt_of_le z2_w17 hb18.size
        have z3_w18 : w14.heap.size < w18.heap.size := Nat.lt_of_lt_of_le z3_w17 hb18.size
        have B_w18 := bt B_w17 hb18
        clear T0_w17 T_w17 T1_w17 B1_w17 T2_w17 B2_w17 None_w17 z0_w17 z1_w17 z2_w17 z3_w17 B_w17 hb18
        go_wp2_with fail
        go_at_call 18
        (with_reducible refine (hMac.out _).mono ?_)
        rintro e w' ⟨rfl, rfl⟩
        have o_B2_0 := B2_w18.out.c (i := 0) rfl
        have o_B2_1 := B2_w18.out.c (i := 1) rfl
        have o_B2_2 := B2_w18.out.c (i := 2) rfl
        have o_None_0 := None_w18.out.c (i := 0) rfl
        have o_None_1 := None_w18.out.c (i := 1) rfl
        have o_None_2 := None_w18.out.c (i := 2) rfl
        go_wp2_with fail
        clear o_B2_0 o_B2_1 o_B2_2 o_None_0 o_None_1 o_None_2
        go_at_call 16
        (with_reducible refine (r_same 0 0 T2_w18.out.tab (TabS.empty _) small_nil).mono ?_)
        rintro e w19 ⟨rfl, hb19⟩
        have T0_w19 := Lib.hid (T0_w18.out.below hb19)
        have T_w19 := Lib.hid (T_w18.out.below hb19)
        have T1_w19 := Lib.hid (T1_w18.out.below hb19)
        have B1_w19 := Lib.hid (B1_w18.out.below hb19)
        have T2_w19 := Lib.hid (T2_w18.out.below hb19)
        have B2_w19 := Lib.hid (B2_w18.out.below hb19)
        have None_w19 := Lib.hid (None_w18.out.below hb19)
        have z0_w19 : w.heap.size < w19.heap.size := Nat.lt_of_lt_of_le z0_w18 hb19.size
        have z1_w19 : w10.heap.size < w19.heap.size := Nat.lt_of_lt_of_le z1_w18 hb19.size
        have z2_w19 : w12.heap.size < w19.heap.size := Nat.lt_of_lt_of_le z2_w18 hb19.size
        have z3_w19 : w14.heap.size < w19.heap.size := Nat.lt_of_lt_of_le z3_w18 hb19.size
        have B_w19 := bt B_w18 hb19
        clear T0_w18 T_w18 T1_w18 B1_w18 T2_w18 B2_w18 None_w18 z0_w18 z1_w18 z2_w18 z3_w18 B_w18 hb19
        go_wp2_with fail
        go_ret
        exact ⟨rfl, B_w19⟩
      | true =>
        rw [hm] at hMac
        cases htm : timeB now with
        | false =>
          rw [htm] at hTime
          have hlo : Hid (learnOk bs s ag a port now = false) := Lib.hid (by unfold learnOk; rw [hr, hm, htm]; cases portB port <;> rfl)
          have hfo : Hid (findOk bs s ag a now = false) := Lib.hid (by unfold findOk; rw [hr, hm, htm]; rfl)
          replace hr := Lib.hid hr
          replace hm := Lib.hid hm
          replace htm := Lib.hid htm
          go_wp2_with fail
          go_at_call 9
          (with_reducible refine (new_no hn0 hsz.out).mono ?_)
          rintro e w10 ⟨A1, n1, c1, rfl, T1, hb10⟩
          have T0_w10 := Lib.hid (T0_w9.out.below hb10)
          have T_w10 := Lib.hid (T_w9.out.below hb10)
          have T1_w10 := Lib.hid (T1)
          have z0_w10 : w.heap.size < w10.heap.size := Nat.lt_of_lt_of_le z0_w9 hb10.size
          have B_w10 := bt B_w9 hb10
          clear T0_w9 T_w9 z0_w9 B_w9 hb10
          clear T1
          have o_T0_0 := T0_w10.out.c (i := 0) rfl
          have o_T0_1 := T0_w10.out.c (i := 1) rfl
          have o_T0_2 := T0_w10.out.c (i := 2) rfl
          go_wp2_with fail
          clear o_T0_0 o_T0_1 o_T0_2
          obtain ⟨w11, hw11⟩ : ∃ W, W = w10.alloc (.cells #[.slice A1 n1 c1, .int .i64 0, .int .i64 0] 24) := ⟨_, rfl⟩
          have bw11 : Below w10.heap.size w10 w11 := by rw [hw11]; exact (Below.refl _ _).alloc (Nat.le_refl _) _
          have Xw11 : Bx w11 w10.heap.size 24 #[.slice A1 n1 c1, .int .i64 0, .int .i64 0] := by rw [hw11]; exact Bx.new _ _ _ rfl
          rw [← hw11]
          clear hw11
          have T0_w11 := Lib.hid (T0_w10.out.below bw11)
          have T_w11 := Lib.hid (T_w10.out.below bw11)
          have T1_w11 := Lib.hid (T1_w10.out.below bw11)
          have B1_w11 := Lib.hid (Xw11)
          have z0_w11 : w.heap.size < w11.heap.size := Nat.lt_of_lt_of_le z0_w10 bw11.size
          have B_w11 := bt B_w10 bw11
          clear T0_w10 T_w10 T1_w10 z0_w10 B_w10 bw11
          have z1_w11 : w10.heap.size < w11.heap.size := Xw11.lt
          clear Xw11
          go_at_call 10
          (with_reducible refine (learn_no T_w11.out hsm.out hlo.out).mono ?_)
          rintro e w12 ⟨A2, n2, c2, rfl, T2, hb12⟩
          have T0_w12 := Lib.hid (T0_w11.out.below hb12)
          have T_w12 := Lib.hid (T_w11.out.below hb12)
          have T1_w12 := Lib.hid (T1_w11.out.below hb12)
          have B1_w12 := Lib.hid (B1_w11.out.below hb12)
          have T2_w12 := Lib.hid (T2)
          have z0_w12 : w.heap.size < w12.heap.size := Nat.lt_of_lt_of_le z0_w11 hb12.size
          have z1_w12 : w10.heap.size < w12.heap.size := Nat.lt_of_lt_of_le z1_w11 hb12.size
          have B_w12 := bt B_w11 hb12
          clear T0_w11 T_w11 T1_w11 B1_w11 z0_w11 z1_w11 B_w11 hb12
          clear T2
          have o_T0_0 := T0_w12.out.c (i := 0) rfl
          have o_T0_1 := T0_w12.out.c (i := 1) rfl
          have o_T0_2 := T0_w12.out.c (i := 2) rfl
          go_wp2_with fail
          clear o_T0_0 o_T0_1 o_T0_2
          obtain ⟨w13, hw13⟩ : ∃ W, W = w12.alloc (.cells #[.slice A2 n2 c2, .int .i64 0, .int .i64 0] 24) := ⟨_, rfl⟩
          have bw13 : Below w12.heap.size w12 w13 := by rw [hw13]; exact (Below.refl _ _).alloc (Nat.le_refl _) _
          have Xw13 : Bx w13 w12.heap.size 24 #[.slice A2 n2 c2, .int .i64 0, .int .i64 0] := by rw [hw13]; exact Bx.new _ _ _ rfl
          rw [← hw13]
          clear hw13
          have T0_w13 := Lib.hid (T0_w12.out.below bw13)
          have T_w13 := Lib.hid (T_w12.out.below bw13)
          have T1_w13 := Lib.hid (T1_w12.out.below bw13)
          have B1_w13 := Lib.hid (B1_w12.out.below bw13)
          have T2_w13 := Lib.hid (T2_w12.out.below bw13)
          have B2_w13 := Lib.hid (Xw13)
          have z0_w13 : w.heap.size < w13.heap.size := Nat.lt_of_lt_of_le z0_w12 bw13.size
          have z1_w13 : w10.heap.size < w13.heap.size := Nat.lt_of_lt_of_le z1_w12 bw13.size
          have B_w13 := bt B_w12 bw13
          clear T0_w12 T_w12 T1_w12 B1_w12 T2_w12 z0_w12 z1_w12 B_w12 bw13
          have z2_w13 : w12.heap.size < w13.heap.size := Xw13.lt
          clear Xw13
          go_at_call 11
          (with_reducible refine (find_no T_w13.out hsm.out hfo.out).mono ?_)
          rintro e w14 ⟨rfl, hb14⟩
          have T0_w14 := Lib.hid (T0_w13.out.below hb14)
          have T_w14 := Lib.hid (T_w13.out.below hb14)
          have T1_w14 := Lib.hid (T1_w13.out.below hb14)
          have B1_w14 := Lib.hid (B1_w13.out.below hb14)
          have T2_w14 := Lib.hid (T2_w13.out.below hb14)
          have B2_w14 := Lib.hid (B2_w13.out.below hb14)
          have z0_w14 : w.heap.size < w14.heap.size := Nat.lt_of_lt_of_le z0_w13 hb14.size
          have z1_w14 : w10.heap.size < w14.heap.size := Nat.lt_of_lt_of_le z1_w13 hb14.size
          have z2_w14 : w12.heap.size < w14.heap.size := Nat.lt_of_lt_of_le z2_w13 hb14.size
          have B_w14 := bt B_w13 hb14
          clear T0_w13 T_w13 T1_w13 B1_w13 T2_w13 B2_w13 z0_w13 z1_w13 z2_w13 B_w13 hb14
          have o_T0_0 := T0_w14.out.c (i := 0) rfl
          have o_T0_1 := T0_w14.out.c (i := 1) rfl
          have o_T0_2 := T0_w14.out.c (i := 2) rfl
          go_wp2_with fail
          clear o_T0_0 o_T0_1 o_T0_2
          obtain ⟨w15, hw15⟩ : ∃ W, W = w14.alloc (.cells #[.slice none 0 0, .int .i64 0, .int .i64 0] 24) := ⟨_, rfl⟩
          have bw15 : Below w14.heap.size w14 w15 := by rw [hw15]; exact (Below.refl _ _).alloc (Nat.le_refl _) _
          have Xw15 : Bx w15 w14.heap.size 24 #[.slice none 0 0, .int .i64 0, .int .i64 0] := by rw [hw15]; exact Bx.new _ _ _ rfl
          rw [← hw15]
          clear hw15
          have T0_w15 := Lib.hid (T0_w14.out.below bw15)
          have T_w15 := Lib.hid (T_w14.out.below bw15)
          have T1_w15 := Lib.hid (T1_w14.out.below bw15)
          have B1_w15 := Lib.hid (B1_w14.out.below bw15)
          have T2_w15 := Lib.hid (T2_w14.out.below bw15)
          have B2_w15 := Lib.hid (B2_w14.out.below bw15)
          have None_w15 := Lib.hid (Xw15)
          have z0_w15 : w.heap.size < w15.heap.size := Nat.lt_of_lt_of_le z0_w14 bw15.size
          have z1_w15 : w10.heap.size < w15.heap.size := Nat.lt_of_lt_of_le z1_w14 bw15.size
          have z2_w15 : w12.heap.size < w15.heap.size := Nat.lt_of_lt_of_le z2_w14 bw15.size
          have B_w15 := bt B_w14 bw15
          clear T0_w14 T_w14 T1_w14 B1_w14 T2_w14 B2_w14 z0_w14 z1_w14 z2_w14 B_w14 bw15
          have z3_w15 : w14.heap.size < w15.heap.size := Xw15.lt
          clear Xw15
          have K_T0_0 := cell_regrown (T0_w15.out.c (i := 0) rfl)
          have K_T0_1 := cell_regrown (T0_w15.out.c (i := 1) rfl)
          have K_T0_2 := cell_regrown (T0_w15.out.c (i := 2) rfl)
          have cC0 := fun (d : Nat) (os : Array Obj) => Calls.regrown_of (fdRight s ag (T_w15.out.below (below_regrown w15 d os)) hsm.out _ hr.out)
          have cC1 := fun (d : Nat) (os : Array Obj) => Calls.regrown_of (r_right s ag (T_w15.out.below (below_regrown w15 d os)) hsm.out _ hr.out)
          have cC2 := fun (d : Nat) (os : Array Obj) => Calls.regrown_of (alive_any (Go.Sort.grow (redrawn w15 d) os))
          refine wp_region_quiet_below (by kernel_rfl) (by kernel_rfl) ?_
          repeat (first | go_big_quiet_step (first | with_reducible exact cC0 _ _ | with_reducible exact cC1 _ _ | with_reducible exact cC2 _ _) | quiet_step (first | with_reducible exact cC0 _ _ | with_reducible exact cC1 _ _ | with_reducible exact cC2 _ _))
          refine wpQuiet_nil ?_
          intro _ hw'
          obtain ⟨⟨dq, osq⟩, hw''⟩ := hw'
          subst hw''
          have hqw16 := below_regrown w15 dq osq
          clear K_T0_0 K_T0_1 K_T0_2 cC0 cC1 cC2
          generalize Go.Sort.grow (redrawn w15 dq) osq = w16 at *
          have T0_w16 := Lib.hid (T0_w15.out.below hqw16)
          have T_w16 := Lib.hid (T_w15.out.below hqw16)
          have T1_w16 := Lib.hid (T1_w15.out.below hqw16)
          have B1_w16 := Lib.hid (B1_w15.out.below hqw16)
          have T2_w16 := Lib.hid (T2_w15.out.below hqw16)
          have B2_w16 := Lib.hid (B2_w15.out.below hqw16)
          have None_w16 := Lib.hid (None_w15.out.below hqw16)
          have z0_w16 : w.heap.size < w16.heap.size := Nat.lt_of_lt_of_le z0_w15 hqw16.size
          have z1_w16 : w10.heap.size < w16.heap.size := Nat.lt_of_lt_of_le z1_w15 hqw16.size
          have z2_w16 : w12.heap.size < w16.heap.size := Nat.lt_of_lt_of_le z2_w15 hqw16.size
          have z3_w16 : w14.heap.size < w16.heap.size := Nat.lt_of_lt_of_le z3_w15 hqw16.size
          have B_w16 := bt B_w15 hqw16
          clear T0_w15 T_w15 T1_w15 B1_w15 T2_w15 B2_w15 None_w15 z0_w15 z1_w15 z2_w15 z3_w15 B_w15 hqw16
          go_wp2_with fail
          go_at_call 15
          (with_reducible refine (hSz.out _).mono ?_)
          rintro e w' ⟨rfl, rfl⟩
          have o_B1_0 := B1_w16.out.c (i := 0) rfl
          have o_B1_1 := B1_w16.out.c (i := 1) rfl
          have o_B1_2 := B1_w16.out.c (i := 2) rfl
          have o_None_0 := None_w16.out.c (i := 0) rfl
          have o_None_1 := None_w16.out.c (i := 1) rfl
          have o_None_2 := None_w16.out.c (i := 2) rfl
          go_wp2_with fail
          clear o_B1_0 o_B1_1 o_B1_2 o_None_0 o_None_1 o_None_2
          go_at_call 16
          (with_reducible refine (r_same 0 0 T1_w16.out.tab (TabS.empty _) small_nil).mono ?_)
          rintro e w17 ⟨rfl, hb17⟩
          have T0_w17 := Lib.hid (T0_w16.out.below hb17)
          have T_w17 := Lib.hid (T_w16.out.below hb17)
          have T1_w17 := Lib.hid (T1_w16.out.below hb17)
          have B1_w17 := Lib.hid (B1_w16.out.below hb17)
          have T2_w17 := Lib.hid (T2_w16.out.below hb17)
          have B2_w17 := Lib.hid (B2_w16.out.below hb17)
          have None_w17 := Lib.hid (None_w16.out.below hb17)
          have z0_w17 : w.heap.size < w17.heap.size := Nat.lt_of_lt_of_le z0_w16 hb17.size
          have z1_w17 : w10.heap.size < w17.heap.size := Nat.lt_of_lt_of_le z1_w16 hb17.size
          have z2_w17 : w12.heap.size < w17.heap.size := Nat.lt_of_lt_of_le z2_w16 hb17.size
          have z3_w17 : w14.heap.size < w17.heap.size := Nat.lt_of_lt_of_le z3_w16 hb17.size
          have B_w17 := bt B_w16 hb17
          clear T0_w16 T_w16 T1_w16 B1_w16 T2_w16 B2_w16 None_w16 z0_w16 z1_w16 z2_w16 z3_w16 B_w16 hb17
          have o_T0_0 := T0_w17.out.c (i := 0) rfl
          have o_T0_1 := T0_w17.out.c (i := 1) rfl
          have o_T0_2 := T0_w17.out.c (i := 2) rfl
          go_wp2_with fail
          clear o_T0_0 o_T0_1 o_T0_2
          go_at_call 13
          (with_reducible refine (r_right s ag T_w17.out hsm.out _ hr.out).mono ?_)
          rintro e w18 ⟨rfl, hb18⟩
          have T0_w18 := Lib.hid (T0_w17.out.below hb18)
          have T_w18 := Lib.hid (T_w17.out.below hb18)
          have T1_w18 := Lib.hid (T1_w17.out.below hb18)
          have B1_w18 := Lib.hid (B1_w17.out.below hb18)
          have T2_w18 := Lib.hid (T2_w17.out.below hb18)
          have B2_w18 := Lib.hid (B2_w17.out.below hb18)
          have None_w18 := Lib.hid (None_w17.out.below hb18)
          have z0_w18 : w.heap.size < w18.heap.size := Nat.lt_of_lt_of_le z0_w17 hb18.size
          have z1_w18 : w10.heap.size < w18.heap.size := Nat.lt_of_lt_of_le z1_w17 hb18.size
          have z2_w18 : w12.heap.size < w18.heap.size := Nat.lt_of_lt_of_le z2_w17 hb18.size
          have z3_w18 : w14.heap.size < w18.heap.size := Nat.lt_of_lt_of_le z3_w17 hb18.size
          have B_w18 := bt B_w17 hb18
          clear T0_w17 T_w17 T1_w17 B1_w17 T2_w17 B2_w17 None_w17 z0_w17 z1_w17 z2_w17 z3_w17 B_w17 hb18
          go_wp2_with fail
          go_at_call 18
          (with_reducible refine (hMac.out _).mono ?_)
          rintro e w' ⟨rfl, rfl⟩
          go_wp2_with fail
          go_at_call 19
          (with_reducible refine (hTime.out _).mono ?_)
          rintro e w' ⟨rfl, rfl⟩
          have o_B2_0 := B2_w18.out.c (i := 0) rfl
          have o_B2_1 := B2_w18.out.c (i := 1) rfl
          have o_B2_2 := B2_w18.out.c (i := 2) rfl
          have o_None_0 := None_w18.out.c (i := 0) rfl
          have o_None_1 := None_w18.out.c (i := 1) rfl
          have o_None_2 := None_w18.out.c (i := 2) rfl
          go_wp2_with fail
          clear o_B2_0 o_B2_1 o_B2_2 o_None_0 o_None_1 o_None_2
          go_at_call 16
          (with_reducible refine (r_same 0 0 T2_w18.out.tab (TabS.empty _) small_nil).mono ?_)
          rintro e w19 ⟨rfl, hb19⟩
          have T0_w19 := Lib.hid (T0_w18.out.below hb19)
          have T_w19 := Lib.hid (T_w18.out.below hb19)
          have T1_w19 := Lib.hid (T1_w18.out.below hb19)
          have B1_w19 := Lib.hid (B1_w18.out.below hb19)
          have T2_w19 := Lib.hid (T2_w18.out.below hb19)
          have B2_w19 := Lib.hid (B2_w18.out.below hb19)
          have None_w19 := Lib.hid (None_w18.out.below hb19)
          have z0_w19 : w.heap.size < w19.heap.size := Nat.lt_of_lt_of_le z0_w18 hb19.size
          have z1_w19 : w10.heap.size < w19.heap.size := Nat.lt_of_lt_of_le z1_w18 hb19.size
          have z2_w19 : w12.heap.size < w19.heap.size := Nat.lt_of_lt_of_le z2_w18 hb19.size
          have z3_w19 : w14.heap.size < w19.heap.size := Nat.lt_of_lt_of_le z3_w18 hb19.size
          have B_w19 := bt B_w18 hb19
          clear T0_w18 T_w18 T1_w18 B1_w18 T2_w18 B2_w18 None_w18 z0_w18 z1_w18 z2_w18 z3_w18 B_w18 hb19
          go_wp2_with fail
          go_ret
          exact ⟨rfl, B_w19⟩
        | true =>
          rw [htm] at hTime
          have hfo : Hid (findOk bs s ag a now = true) := Lib.hid (by unfold findOk; rw [hr, hm, htm]; rfl)
          obtain ⟨p, hp⟩ : ∃ p, findI bs ag a now = p := ⟨_, rfl⟩
          have hfw : Hid (findW (entO bs a) ag now = p) := Lib.hid (by rw [findW_eq hr htm, hp])
          have hpp : (p == p) = true := by simp
          have hpn : (p != p) = false := by simp
          replace hp := Lib.hid hp
          cases hpo : portB port with
          | false =>
            rw [hpo] at hPort
            have hlo : Hid (learnOk bs s ag a port now = false) := Lib.hid (by unfold learnOk; rw [hr, hm, hpo]; rfl)
            replace hr := Lib.hid hr
            replace hm := Lib.hid hm
            replace htm := Lib.hid htm
            replace hpo := Lib.hid hpo
            go_wp2_with fail
            go_at_call 9
            (with_reducible refine (new_no hn0 hsz.out).mono ?_)
            rintro e w10 ⟨A1, n1, c1, rfl, T1, hb10⟩
            have T0_w10 := Lib.hid (T0_w9.out.below hb10)
            have T_w10 := Lib.hid (T_w9.out.below hb10)
            have T1_w10 := Lib.hid (T1)
            have z0_w10 : w.heap.size < w10.heap.size := Nat.lt_of_lt_of_le z0_w9 hb10.size
            have B_w10 := bt B_w9 hb10
            clear T0_w9 T_w9 z0_w9 B_w9 hb10
            clear T1
            have o_T0_0 := T0_w10.out.c (i := 0) rfl
            have o_T0_1 := T0_w10.out.c (i := 1) rfl
            have o_T0_2 := T0_w10.out.c (i := 2) rfl
            go_wp2_with fail
            clear o_T0_0 o_T0_1 o_T0_2
            obtain ⟨w11, hw11⟩ : ∃ W, W = w10.alloc (.cells #[.slice A1 n1 c1, .int .i64 0, .int .i64 0] 24) := ⟨_, rfl⟩
            have bw11 : Below w10.heap.size w10 w11 := by rw [hw11]; exact (Below.refl _ _).alloc (Nat.le_refl _) _
            have Xw11 : Bx w11 w10.heap.size 24 #[.slice A1 n1 c1, .int .i64 0, .int .i64 0] := by rw [hw11]; exact Bx.new _ _ _ rfl
            rw [← hw11]
            clear hw11
            have T0_w11 := Lib.hid (T0_w10.out.below bw11)
            have T_w11 := Lib.hid (T_w10.out.below bw11)
            have T1_w11 := Lib.hid (T1_w10.out.below bw11)
            have B1_w11 := Lib.hid (Xw11)
            have z0_w11 : w.heap.size < w11.heap.size := Nat.lt_of_lt_of_le z0_w10 bw11.size
            have B_w11 := bt B_w10 bw11
            clear T0_w10 T_w10 T1_w10 z0_w10 B_w10 bw11
            have z1_w11 : w10.heap.size < w11.heap.size := Xw11.lt
            clear Xw11
            go_at_call 10
            (with_reducible refine (learn_no T_w11.out hsm.out hlo.out).mono ?_)
            rintro e w12 ⟨A2, n2, c2, rfl, T2, hb12⟩
            have T0_w12 := Lib.hid (T0_w11.out.below hb12)
            have T_w12 := Lib.hid (T_w11.out.below hb12)
            have T1_w12 := Lib.hid (T1_w11.out.below hb12)
            have B1_w12 := Lib.hid (B1_w11.out.below hb12)
            have T2_w12 := Lib.hid (T2)
            have z0_w12 : w.heap.size < w12.heap.size := Nat.lt_of_lt_of_le z0_w11 hb12.size
            have z1_w12 : w10.heap.size < w12.heap.size := Nat.lt_of_lt_of_le z1_w11 hb12.size
            have B_w12 := bt B_w11 hb12
            clear T0_w11 T_w11 T1_w11 B1_w11 z0_w11 z1_w11 B_w11 hb12
            clear T2
            have o_T0_0 := T0_w12.out.c (i := 0) rfl
            have o_T0_1 := T0_w12.out.c (i := 1) rfl
            have o_T0_2 := T0_w12.out.c (i := 2) rfl
            go_wp2_with fail
            clear o_T0_0 o_T0_1 o_T0_2
            obtain ⟨w13, hw13⟩ : ∃ W, W = w12.alloc (.cells #[.slice A2 n2 c2, .int .i64 0, .int .i64 0] 24) := ⟨_, rfl⟩
            have bw13 : Below w12.heap.size w12 w13 := by rw [hw13]; exact (Below.refl _ _).alloc (Nat.le_refl _) _
            have Xw13 : Bx w13 w12.heap.size 24 #[.slice A2 n2 c2, .int .i64 0, .int .i64 0] := by rw [hw13]; exact Bx.new _ _ _ rfl
            rw [← hw13]
            clear hw13
            have T0_w13 := Lib.hid (T0_w12.out.below bw13)
            have T_w13 := Lib.hid (T_w12.out.below bw13)
            have T1_w13 := Lib.hid (T1_w12.out.below bw13)
            have B1_w13 := Lib.hid (B1_w12.out.below bw13)
            have T2_w13 := Lib.hid (T2_w12.out.below bw13)
            have B2_w13 := Lib.hid (Xw13)
            have z0_w13 : w.heap.size < w13.heap.size := Nat.lt_of_lt_of_le z0_w12 bw13.size
            have z1_w13 : w10.heap.size < w13.heap.size := Nat.lt_of_lt_of_le z1_w12 bw13.size
            have B_w13 := bt B_w12 bw13
            clear T0_w12 T_w12 T1_w12 B1_w12 T2_w12 z0_w12 z1_w12 B_w12 bw13
            have z2_w13 : w12.heap.size < w13.heap.size := Xw13.lt
            clear Xw13
            go_at_call 11
            (with_reducible refine (find_yes T_w13.out hfo.out hp.out).mono ?_)
            rintro e w14 ⟨rfl, hb14⟩
            have T0_w14 := Lib.hid (T0_w13.out.below hb14)
            have T_w14 := Lib.hid (T_w13.out.below hb14)
            have T1_w14 := Lib.hid (T1_w13.out.below hb14)
            have B1_w14 := Lib.hid (B1_w13.out.below hb14)
            have T2_w14 := Lib.hid (T2_w13.out.below hb14)
            have B2_w14 := Lib.hid (B2_w13.out.below hb14)
            have z0_w14 : w.heap.size < w14.heap.size := Nat.lt_of_lt_of_le z0_w13 hb14.size
            have z1_w14 : w10.heap.size < w14.heap.size := Nat.lt_of_lt_of_le z1_w13 hb14.size
            have z2_w14 : w12.heap.size < w14.heap.size := Nat.lt_of_lt_of_le z2_w13 hb14.size
            have B_w14 := bt B_w13 hb14
            clear T0_w13 T_w13 T1_w13 B1_w13 T2_w13 B2_w13 z0_w13 z1_w13 z2_w13 B_w13 hb14
            have o_T0_0 := T0_w14.out.c (i := 0) rfl
            have o_T0_1 := T0_w14.out.c (i := 1) rfl
            have o_T0_2 := T0_w14.out.c (i := 2) rfl
            go_wp2_with fail
            clear o_T0_0 o_T0_1 o_T0_2
            obtain ⟨w15, hw15⟩ : ∃ W, W = w14.alloc (.cells #[.slice none 0 0, .int .i64 0, .int .i64 0] 24) := ⟨_, rfl⟩
            have bw15 : Below w14.heap.size w14 w15 := by rw [hw15]; exact (Below.refl _ _).alloc (Nat.le_refl _) _
            have Xw15 : Bx w15 w14.heap.size 24 #[.slice none 0 0, .int .i64 0, .int .i64 0] := by rw [hw15]; exact Bx.new _ _ _ rfl
            rw [← hw15]
            clear hw15
            have T0_w15 := Lib.hid (T0_w14.out.below bw15)
            have T_w15 := Lib.hid (T_w14.out.below bw15)
            have T1_w15 := Lib.hid (T1_w14.out.below bw15)
            have B1_w15 := Lib.hid (B1_w14.out.below bw15)
            have T2_w15 := Lib.hid (T2_w14.out.below bw15)
            have B2_w15 := Lib.hid (B2_w14.out.below bw15)
            have None_w15 := Lib.hid (Xw15)
            have z0_w15 : w.heap.size < w15.heap.size := Nat.lt_of_lt_of_le z0_w14 bw15.size
            have z1_w15 : w10.heap.size < w15.heap.size := Nat.lt_of_lt_of_le z1_w14 bw15.size
            have z2_w15 : w12.heap.size < w15.heap.size := Nat.lt_of_lt_of_le z2_w14 bw15.size
            have B_w15 := bt B_w14 bw15
            clear T0_w14 T_w14 T1_w14 B1_w14 T2_w14 B2_w14 z0_w14 z1_w14 z2_w14 B_w14 bw15
            have z3_w15 : w14.heap.size < w15.heap.size := Xw15.lt
            clear Xw15
            have K_T0_0 := cell_regrown (T0_w15.out.c (i := 0) rfl)
            have K_T0_1 := cell_regrown (T0_w15.out.c (i := 1) rfl)
            have K_T0_2 := cell_regrown (T0_w15.out.c (i := 2) rfl)
            have cC0 := fun (d : Nat) (os : Array Obj) => Calls.regrown_of (fdRight s ag (T_w15.out.below (below_regrown w15 d os)) hsm.out _ hr.out)
            have cC1 := fun (d : Nat) (os : Array Obj) => Calls.regrown_of (r_right s ag (T_w15.out.below (below_regrown w15 d os)) hsm.out _ hr.out)
            have cC2 := fun (d : Nat) (os : Array Obj) => Calls.regrown_of (alive_any (Go.Sort.grow (redrawn w15 d) os))
            refine wp_region_quiet_below (by kernel_rfl) (by kernel_rfl) ?_
            repeat (first | go_big_quiet_step (first | with_reducible exact cC0 _ _ | with_reducible exact cC1 _ _ | with_reducible exact cC2 _ _) | quiet_step (first | with_reducible exact cC0 _ _ | with_reducible exact cC1 _ _ | with_reducible exact cC2 _ _))
            refine wpQuiet_nil ?_
            intro _ hw'
            obtain ⟨⟨dq, osq⟩, hw''⟩ := hw'
            subst hw''
            have hqw16 := below_regrown w15 dq osq
            clear K_T0_0 K_T0_1 K_T0_2 cC0 cC1 cC2
            generalize Go.Sort.grow (redrawn w15 dq) osq = w16 at *
            have T0_w16 := Lib.hid (T0_w15.out.below hqw16)
            have T_w16 := Lib.hid (T_w15.out.below hqw16)
            have T1_w16 := Lib.hid (T1_w15.out.below hqw16)
            have B1_w16 := Lib.hid (B1_w15.out.below hqw16)
            have T2_w16 := Lib.hid (T2_w15.out.below hqw16)
            have B2_w16 := Lib.hid (B2_w15.out.below hqw16)
            have None_w16 := Lib.hid (None_w15.out.below hqw16)
            have z0_w16 : w.heap.size < w16.heap.size := Nat.lt_of_lt_of_le z0_w15 hqw16.size
            have z1_w16 : w10.heap.size < w16.heap.size := Nat.lt_of_lt_of_le z1_w15 hqw16.size
            have z2_w16 : w12.heap.size < w16.heap.size := Nat.lt_of_lt_of_le z2_w15 hqw16.size
            have z3_w16 : w14.heap.size < w16.heap.size := Nat.lt_of_lt_of_le z3_w15 hqw16.size
            have B_w16 := bt B_w15 hqw16
            clear T0_w15 T_w15 T1_w15 B1_w15 T2_w15 B2_w15 None_w15 z0_w15 z1_w15 z2_w15 z3_w15 B_w15 hqw16
            go_wp2_with fail
            go_at_call 15
            (with_reducible refine (hSz.out _).mono ?_)
            rintro e w' ⟨rfl, rfl⟩
            have o_B1_0 := B1_w16.out.c (i := 0) rfl
            have o_B1_1 := B1_w16.out.c (i := 1) rfl
            have o_B1_2 := B1_w16.out.c (i := 2) rfl
            have o_None_0 := None_w16.out.c (i := 0) rfl
            have o_None_1 := None_w16.out.c (i := 1) rfl
            have o_None_2 := None_w16.out.c (i := 2) rfl
            go_wp2_with fail
            clear o_B1_0 o_B1_1 o_B1_2 o_None_0 o_None_1 o_None_2
            go_at_call 16
            (with_reducible refine (r_same 0 0 T1_w16.out.tab (TabS.empty _) small_nil).mono ?_)
            rintro e w17 ⟨rfl, hb17⟩
            have T0_w17 := Lib.hid (T0_w16.out.below hb17)
            have T_w17 := Lib.hid (T_w16.out.below hb17)
            have T1_w17 := Lib.hid (T1_w16.out.below hb17)
            have B1_w17 := Lib.hid (B1_w16.out.below hb17)
            have T2_w17 := Lib.hid (T2_w16.out.below hb17)
            have B2_w17 := Lib.hid (B2_w16.out.below hb17)
            have None_w17 := Lib.hid (None_w16.out.below hb17)
            have z0_w17 : w.heap.size < w17.heap.size := Nat.lt_of_lt_of_le z0_w16 hb17.size
            have z1_w17 : w10.heap.size < w17.heap.size := Nat.lt_of_lt_of_le z1_w16 hb17.size
            have z2_w17 : w12.heap.size < w17.heap.size := Nat.lt_of_lt_of_le z2_w16 hb17.size
            have z3_w17 : w14.heap.size < w17.heap.size := Nat.lt_of_lt_of_le z3_w16 hb17.size
            have B_w17 := bt B_w16 hb17
            clear T0_w16 T_w16 T1_w16 B1_w16 T2_w16 B2_w16 None_w16 z0_w16 z1_w16 z2_w16 z3_w16 B_w16 hb17
            have o_T0_0 := T0_w17.out.c (i := 0) rfl
            have o_T0_1 := T0_w17.out.c (i := 1) rfl
            have o_T0_2 := T0_w17.out.c (i := 2) rfl
            go_wp2_with fail
            clear o_T0_0 o_T0_1 o_T0_2
            go_at_call 13
            (with_reducible refine (r_right s ag T_w17.out hsm.out _ hr.out).mono ?_)
            rintro e w18 ⟨rfl, hb18⟩
            have T0_w18 := Lib.hid (T0_w17.out.below hb18)
            have T_w18 := Lib.hid (T_w17.out.below hb18)
            have T1_w18 := Lib.hid (T1_w17.out.below hb18)
            have B1_w18 := Lib.hid (B1_w17.out.below hb18)
            have T2_w18 := Lib.hid (T2_w17.out.below hb18)
            have B2_w18 := Lib.hid (B2_w17.out.below hb18)
            have None_w18 := Lib.hid (None_w17.out.below hb18)
            have z0_w18 : w.heap.size < w18.heap.size := Nat.lt_of_lt_of_le z0_w17 hb18.size
            have z1_w18 : w10.heap.size < w18.heap.size := Nat.lt_of_lt_of_le z1_w17 hb18.size
            have z2_w18 : w12.heap.size < w18.heap.size := Nat.lt_of_lt_of_le z2_w17 hb18.size
            have z3_w18 : w14.heap.size < w18.heap.size := Nat.lt_of_lt_of_le z3_w17 hb18.size
            have B_w18 := bt B_w17 hb18
            clear T0_w17 T_w17 T1_w17 B1_w17 T2_w17 B2_w17 None_w17 z0_w17 z1_w17 z2_w17 z3_w17 B_w17 hb18
            go_wp2_with fail
            go_at_call 18
            (with_reducible refine (hMac.out _).mono ?_)
            rintro e w' ⟨rfl, rfl⟩
            go_wp2_with fail
            go_at_call 19
            (with_reducible refine (hTime.out _).mono ?_)
            rintro e w' ⟨rfl, rfl⟩
            have o_T0_0 := T0_w18.out.c (i := 0) rfl
            have o_T0_1 := T0_w18.out.c (i := 1) rfl
            have o_T0_2 := T0_w18.out.c (i := 2) rfl
            go_wp2_with fail
            clear o_T0_0 o_T0_1 o_T0_2
            go_at_call 20
            (with_reducible refine ((r_find s ag a now T_w18.out hsm.out hnb2.out hm.out)).mono ?_)
            rw [hfw.out]
            rintro e w19 ⟨rfl, hb19⟩
            have T0_w19 := Lib.hid (T0_w18.out.below hb19)
            have T_w19 := Lib.hid (T_w18.out.below hb19)
            have T1_w19 := Lib.hid (T1_w18.out.below hb19)
            have B1_w19 := Lib.hid (B1_w18.out.below hb19)
            have T2_w19 := Lib.hid (T2_w18.out.below hb19)
            have B2_w19 := Lib.hid (B2_w18.out.below hb19)
            have None_w19 := Lib.hid (None_w18.out.below hb19)
            have z0_w19 : w.heap.size < w19.heap.size := Nat.lt_of_lt_of_le z0_w18 hb19.size
            have z1_w19 : w10.heap.size < w19.heap.size := Nat.lt_of_lt_of_le z1_w18 hb19.size
            have z2_w19 : w12.heap.size < w19.heap.size := Nat.lt_of_lt_of_le z2_w18 hb19.size
            have z3_w19 : w14.heap.size < w19.heap.size := Nat.lt_of_lt_of_le z3_w18 hb19.size
            have B_w19 := bt B_w18 hb19
            clear T0_w18 T_w18 T1_w18 B1_w18 T2_w18 B2_w18 None_w18 z0_w18 z1_w18 z2_w18 z3_w18 B_w18 hb19
            go_wp2_with fail
            go_at_call 21
            (with_reducible refine (hPort.out _).mono ?_)
            rintro e w' ⟨rfl, rfl⟩
            have o_B2_0 := B2_w19.out.c (i := 0) rfl
            have o_B2_1 := B2_w19.out.c (i := 1) rfl
            have o_B2_2 := B2_w19.out.c (i := 2) rfl
            have o_None_0 := None_w19.out.c (i := 0) rfl
            have o_None_1 := None_w19.out.c (i := 1) rfl
            have o_None_2 := None_w19.out.c (i := 2) rfl
            go_wp2_with fail
            clear o_B2_0 o_B2_1 o_B2_2 o_None_0 o_None_1 o_None_2
            go_at_call 16
            (with_reducible refine (r_same 0 0 T2_w19.out.tab (TabS.empty _) small_nil).mono ?_)
            rintro e w20 ⟨rfl, hb20⟩
            have T0_w20 := Lib.hid (T0_w19.out.below hb20)
            have T_w20 := Lib.hid (T_w19.out.below hb20)
            have T1_w20 := Lib.hid (T1_w19.out.below hb20)
            have B1_w20 := Lib.hid (B1_w19.out.below hb20)
            have T2_w20 := Lib.hid (T2_w19.out.below hb20)
            have B2_w20 := Lib.hid (B2_w19.out.below hb20)
            have None_w20 := Lib.hid (None_w19.out.below hb20)
            have z0_w20 : w.heap.size < w20.heap.size := Nat.lt_of_lt_of_le z0_w19 hb20.size
            have z1_w20 : w10.heap.size < w20.heap.size := Nat.lt_of_lt_of_le z1_w19 hb20.size
            have z2_w20 : w12.heap.size < w20.heap.size := Nat.lt_of_lt_of_le z2_w19 hb20.size
            have z3_w20 : w14.heap.size < w20.heap.size := Nat.lt_of_lt_of_le z3_w19 hb20.size
            have B_w20 := bt B_w19 hb20
            clear T0_w19 T_w19 T1_w19 B1_w19 T2_w19 B2_w19 None_w19 z0_w19 z1_w19 z2_w19 z3_w19 B_w19 hb20
            go_wp2_with fail
            go_ret
            exact ⟨rfl, B_w20⟩
          | true =>
            rw [hpo] at hPort
            have hlo : Hid (learnOk bs s ag a port now = true) := Lib.hid (by unfold learnOk; rw [hr, hm, hpo, htm]; rfl)
            obtain ⟨bs', hL⟩ : ∃ b, learnT bs s a port now = b := ⟨_, rfl⟩
            have hrl : Hid (rLearn bs s a port now = bs') := Lib.hid (by rw [rLearn_eq hr, hL])
            have hsm' : Hid (Small bs') := Lib.hid (by rw [← hL]; exact right_small (learn_right hlo.out))
            replace hL := Lib.hid hL
            replace hr := Lib.hid hr
            replace hm := Lib.hid hm
            replace htm := Lib.hid htm
            replace hpo := Lib.hid hpo
            go_wp2_with fail
            go_at_call 9
            (with_reducible refine (new_no hn0 hsz.out).mono ?_)
            rintro e w10 ⟨A1, n1, c1, rfl, T1, hb10⟩
            have T0_w10 := Lib.hid (T0_w9.out.below hb10)
            have T_w10 := Lib.hid (T_w9.out.below hb10)
            have T1_w10 := Lib.hid (T1)
            have z0_w10 : w.heap.size < w10.heap.size := Nat.lt_of_lt_of_le z0_w9 hb10.size
            have B_w10 := bt B_w9 hb10
            clear T0_w9 T_w9 z0_w9 B_w9 hb10
            clear T1
            have o_T0_0 := T0_w10.out.c (i := 0) rfl
            have o_T0_1 := T0_w10.out.c (i := 1) rfl
            have o_T0_2 := T0_w10.out.c (i := 2) rfl
            go_wp2_with fail
            clear o_T0_0 o_T0_1 o_T0_2
            obtain ⟨w11, hw11⟩ : ∃ W, W = w10.alloc (.cells #[.slice A1 n1 c1, .int .i64 0, .int .i64 0] 24) := ⟨_, rfl⟩
            have bw11 : Below w10.heap.size w10 w11 := by rw [hw11]; exact (Below.refl _ _).alloc (Nat.le_refl _) _
            have Xw11 : Bx w11 w10.heap.size 24 #[.slice A1 n1 c1, .int .i64 0, .int .i64 0] := by rw [hw11]; exact Bx.new _ _ _ rfl
            rw [← hw11]
            clear hw11
            have T0_w11 := Lib.hid (T0_w10.out.below bw11)
            have T_w11 := Lib.hid (T_w10.out.below bw11)
            have T1_w11 := Lib.hid (T1_w10.out.below bw11)
            have B1_w11 := Lib.hid (Xw11)
            have z0_w11 : w.heap.size < w11.heap.size := Nat.lt_of_lt_of_le z0_w10 bw11.size
            have B_w11 := bt B_w10 bw11
            clear T0_w10 T_w10 T1_w10 z0_w10 B_w10 bw11
            have z1_w11 : w10.heap.size < w11.heap.size := Xw11.lt
            clear Xw11
            go_at_call 10
            (with_reducible refine (learn_yes T_w11.out hlo.out hL.out).mono ?_)
            rintro e w12 ⟨A2, n2, c2, rfl, T2, hb12⟩
            have T0_w12 := Lib.hid (T0_w11.out.below hb12)
            have T_w12 := Lib.hid (T_w11.out.below hb12)
            have T1_w12 := Lib.hid (T1_w11.out.below hb12)
            have B1_w12 := Lib.hid (B1_w11.out.below hb12)
            have T2_w12 := Lib.hid (T2)
            have z0_w12 : w.heap.size < w12.heap.size := Nat.lt_of_lt_of_le z0_w11 hb12.size
            have z1_w12 : w10.heap.size < w12.heap.size := Nat.lt_of_lt_of_le z1_w11 hb12.size
            have B_w12 := bt B_w11 hb12
            clear T0_w11 T_w11 T1_w11 B1_w11 z0_w11 z1_w11 B_w11 hb12
            clear T2
            have o_T0_0 := T0_w12.out.c (i := 0) rfl
            have o_T0_1 := T0_w12.out.c (i := 1) rfl
            have o_T0_2 := T0_w12.out.c (i := 2) rfl
            go_wp2_with fail
            clear o_T0_0 o_T0_1 o_T0_2
            obtain ⟨w13, hw13⟩ : ∃ W, W = w12.alloc (.cells #[.slice A2 n2 c2, .int .i64 s, .int .i64 ag] 24) := ⟨_, rfl⟩
            have bw13 : Below w12.heap.size w12 w13 := by rw [hw13]; exact (Below.refl _ _).alloc (Nat.le_refl _) _
            have Xw13 : Bx w13 w12.heap.size 24 #[.slice A2 n2 c2, .int .i64 s, .int .i64 ag] := by rw [hw13]; exact Bx.new _ _ _ rfl
            rw [← hw13]
            clear hw13
            have T0_w13 := Lib.hid (T0_w12.out.below bw13)
            have T_w13 := Lib.hid (T_w12.out.below bw13)
            have T1_w13 := Lib.hid (T1_w12.out.below bw13)
            have B1_w13 := Lib.hid (B1_w12.out.below bw13)
            have T2_w13 := Lib.hid (T2_w12.out.below bw13)
            have B2_w13 := Lib.hid (Xw13)
            have z0_w13 : w.heap.size < w13.heap.size := Nat.lt_of_lt_of_le z0_w12 bw13.size
            have z1_w13 : w10.heap.size < w13.heap.size := Nat.lt_of_lt_of_le z1_w12 bw13.size
            have B_w13 := bt B_w12 bw13
            clear T0_w12 T_w12 T1_w12 B1_w12 T2_w12 z0_w12 z1_w12 B_w12 bw13
            have z2_w13 : w12.heap.size < w13.heap.size := Xw13.lt
            clear Xw13
            go_at_call 11
            (with_reducible refine (find_yes T_w13.out hfo.out hp.out).mono ?_)
            rintro e w14 ⟨rfl, hb14⟩
            have T0_w14 := Lib.hid (T0_w13.out.below hb14)
            have T_w14 := Lib.hid (T_w13.out.below hb14)
            have T1_w14 := Lib.hid (T1_w13.out.below hb14)
            have B1_w14 := Lib.hid (B1_w13.out.below hb14)
            have T2_w14 := Lib.hid (T2_w13.out.below hb14)
            have B2_w14 := Lib.hid (B2_w13.out.below hb14)
            have z0_w14 : w.heap.size < w14.heap.size := Nat.lt_of_lt_of_le z0_w13 hb14.size
            have z1_w14 : w10.heap.size < w14.heap.size := Nat.lt_of_lt_of_le z1_w13 hb14.size
            have z2_w14 : w12.heap.size < w14.heap.size := Nat.lt_of_lt_of_le z2_w13 hb14.size
            have B_w14 := bt B_w13 hb14
            clear T0_w13 T_w13 T1_w13 B1_w13 T2_w13 B2_w13 z0_w13 z1_w13 z2_w13 B_w13 hb14
            have o_T0_0 := T0_w14.out.c (i := 0) rfl
            have o_T0_1 := T0_w14.out.c (i := 1) rfl
            have o_T0_2 := T0_w14.out.c (i := 2) rfl
            go_wp2_with fail
            clear o_T0_0 o_T0_1 o_T0_2
            obtain ⟨w15, hw15⟩ : ∃ W, W = w14.alloc (.cells #[.slice none 0 0, .int .i64 0, .int .i64 0] 24) := ⟨_, rfl⟩
            have bw15 : Below w14.heap.size w14 w15 := by rw [hw15]; exact (Below.refl _ _).alloc (Nat.le_refl _) _
            have Xw15 : Bx w15 w14.heap.size 24 #[.slice none 0 0, .int .i64 0, .int .i64 0] := by rw [hw15]; exact Bx.new _ _ _ rfl
            rw [← hw15]
            clear hw15
            have T0_w15 := Lib.hid (T0_w14.out.below bw15)
            have T_w15 := Lib.hid (T_w14.out.below bw15)
            have T1_w15 := Lib.hid (T1_w14.out.below bw15)
            have B1_w15 := Lib.hid (B1_w14.out.below bw15)
            have T2_w15 := Lib.hid (T2_w14.out.below bw15)
            have B2_w15 := Lib.hid (B2_w14.out.below bw15)
            have None_w15 := Lib.hid (Xw15)
            have z0_w15 : w.heap.size < w15.heap.size := Nat.lt_of_lt_of_le z0_w14 bw15.size
            have z1_w15 : w10.heap.size < w15.heap.size := Nat.lt_of_lt_of_le z1_w14 bw15.size
            have z2_w15 : w12.heap.size < w15.heap.size := Nat.lt_of_lt_of_le z2_w14 bw15.size
            have B_w15 := bt B_w14 bw15
            clear T0_w14 T_w14 T1_w14 B1_w14 T2_w14 B2_w14 z0_w14 z1_w14 z2_w14 B_w14 bw15
            have z3_w15 : w14.heap.size < w15.heap.size := Xw15.lt
            clear Xw15
            have K_T0_0 := cell_regrown (T0_w15.out.c (i := 0) rfl)
            have K_T0_1 := cell_regrown (T0_w15.out.c (i := 1) rfl)
            have K_T0_2 := cell_regrown (T0_w15.out.c (i := 2) rfl)
            have cC0 := fun (d : Nat) (os : Array Obj) => Calls.regrown_of (fdRight s ag (T_w15.out.below (below_regrown w15 d os)) hsm.out _ hr.out)
            have cC1 := fun (d : Nat) (os : Array Obj) => Calls.regrown_of (r_right s ag (T_w15.out.below (below_regrown w15 d os)) hsm.out _ hr.out)
            have cC2 := fun (d : Nat) (os : Array Obj) => Calls.regrown_of (alive_any (Go.Sort.grow (redrawn w15 d) os))
            refine wp_region_quiet_below (by kernel_rfl) (by kernel_rfl) ?_
            repeat (first | go_big_quiet_step (first | with_reducible exact cC0 _ _ | with_reducible exact cC1 _ _ | with_reducible exact cC2 _ _) | quiet_step (first | with_reducible exact cC0 _ _ | with_reducible exact cC1 _ _ | with_reducible exact cC2 _ _))
            refine wpQuiet_nil ?_
            intro _ hw'
            obtain ⟨⟨dq, osq⟩, hw''⟩ := hw'
            subst hw''
            have hqw16 := below_regrown w15 dq osq
            clear K_T0_0 K_T0_1 K_T0_2 cC0 cC1 cC2
            generalize Go.Sort.grow (redrawn w15 dq) osq = w16 at *
            have T0_w16 := Lib.hid (T0_w15.out.below hqw16)
            have T_w16 := Lib.hid (T_w15.out.below hqw16)
            have T1_w16 := Lib.hid (T1_w15.out.below hqw16)
            have B1_w16 := Lib.hid (B1_w15.out.below hqw16)
            have T2_w16 := Lib.hid (T2_w15.out.below hqw16)
            have B2_w16 := Lib.hid (B2_w15.out.below hqw16)
            have None_w16 := Lib.hid (None_w15.out.below hqw16)
            have z0_w16 : w.heap.size < w16.heap.size := Nat.lt_of_lt_of_le z0_w15 hqw16.size
            have z1_w16 : w10.heap.size < w16.heap.size := Nat.lt_of_lt_of_le z1_w15 hqw16.size
            have z2_w16 : w12.heap.size < w16.heap.size := Nat.lt_of_lt_of_le z2_w15 hqw16.size
            have z3_w16 : w14.heap.size < w16.heap.size := Nat.lt_of_lt_of_le z3_w15 hqw16.size
            have B_w16 := bt B_w15 hqw16
            clear T0_w15 T_w15 T1_w15 B1_w15 T2_w15 B2_w15 None_w15 z0_w15 z1_w15 z2_w15 z3_w15 B_w15 hqw16
            go_wp2_with fail
            go_at_call 15
            (with_reducible refine (hSz.out _).mono ?_)
            rintro e w' ⟨rfl, rfl⟩
            have o_B1_0 := B1_w16.out.c (i := 0) rfl
            have o_B1_1 := B1_w16.out.c (i := 1) rfl
            have o_B1_2 := B1_w16.out.c (i := 2) rfl
            have o_None_0 := None_w16.out.c (i := 0) rfl
            have o_None_1 := None_w16.out.c (i := 1) rfl
            have o_None_2 := None_w16.out.c (i := 2) rfl
            go_wp2_with fail
            clear o_B1_0 o_B1_1 o_B1_2 o_None_0 o_None_1 o_None_2
            go_at_call 16
            (with_reducible refine (r_same 0 0 T1_w16.out.tab (TabS.empty _) small_nil).mono ?_)
            rintro e w17 ⟨rfl, hb17⟩
            have T0_w17 := Lib.hid (T0_w16.out.below hb17)
            have T_w17 := Lib.hid (T_w16.out.below hb17)
            have T1_w17 := Lib.hid (T1_w16.out.below hb17)
            have B1_w17 := Lib.hid (B1_w16.out.below hb17)
            have T2_w17 := Lib.hid (T2_w16.out.below hb17)
            have B2_w17 := Lib.hid (B2_w16.out.below hb17)
            have None_w17 := Lib.hid (None_w16.out.below hb17)
            have z0_w17 : w.heap.size < w17.heap.size := Nat.lt_of_lt_of_le z0_w16 hb17.size
            have z1_w17 : w10.heap.size < w17.heap.size := Nat.lt_of_lt_of_le z1_w16 hb17.size
            have z2_w17 : w12.heap.size < w17.heap.size := Nat.lt_of_lt_of_le z2_w16 hb17.size
            have z3_w17 : w14.heap.size < w17.heap.size := Nat.lt_of_lt_of_le z3_w16 hb17.size
            have B_w17 := bt B_w16 hb17
            clear T0_w16 T_w16 T1_w16 B1_w16 T2_w16 B2_w16 None_w16 z0_w16 z1_w16 z2_w16 z3_w16 B_w16 hb17
            have o_T0_0 := T0_w17.out.c (i := 0) rfl
            have o_T0_1 := T0_w17.out.c (i := 1) rfl
            have o_T0_2 := T0_w17.out.c (i := 2) rfl
            go_wp2_with fail
            clear o_T0_0 o_T0_1 o_T0_2
            go_at_call 13
            (with_reducible refine (r_right s ag T_w17.out hsm.out _ hr.out).mono ?_)
            rintro e w18 ⟨rfl, hb18⟩
            have T0_w18 := Lib.hid (T0_w17.out.below hb18)
            have T_w18 := Lib.hid (T_w17.out.below hb18)
            have T1_w18 := Lib.hid (T1_w17.out.below hb18)
            have B1_w18 := Lib.hid (B1_w17.out.below hb18)
            have T2_w18 := Lib.hid (T2_w17.out.below hb18)
            have B2_w18 := Lib.hid (B2_w17.out.below hb18)
            have None_w18 := Lib.hid (None_w17.out.below hb18)
            have z0_w18 : w.heap.size < w18.heap.size := Nat.lt_of_lt_of_le z0_w17 hb18.size
            have z1_w18 : w10.heap.size < w18.heap.size := Nat.lt_of_lt_of_le z1_w17 hb18.size
            have z2_w18 : w12.heap.size < w18.heap.size := Nat.lt_of_lt_of_le z2_w17 hb18.size
            have z3_w18 : w14.heap.size < w18.heap.size := Nat.lt_of_lt_of_le z3_w17 hb18.size
            have B_w18 := bt B_w17 hb18
            clear T0_w17 T_w17 T1_w17 B1_w17 T2_w17 B2_w17 None_w17 z0_w17 z1_w17 z2_w17 z3_w17 B_w17 hb18
            go_wp2_with fail
            go_at_call 18
            (with_reducible refine (hMac.out _).mono ?_)
            rintro e w' ⟨rfl, rfl⟩
            go_wp2_with fail
            go_at_call 19
            (with_reducible refine (hTime.out _).mono ?_)
            rintro e w' ⟨rfl, rfl⟩
            have o_T0_0 := T0_w18.out.c (i := 0) rfl
            have o_T0_1 := T0_w18.out.c (i := 1) rfl
            have o_T0_2 := T0_w18.out.c (i := 2) rfl
            go_wp2_with fail
            clear o_T0_0 o_T0_1 o_T0_2
            go_at_call 20
            (with_reducible refine ((r_find s ag a now T_w18.out hsm.out hnb2.out hm.out)).mono ?_)
            rw [hfw.out]
            rintro e w19 ⟨rfl, hb19⟩
            have T0_w19 := Lib.hid (T0_w18.out.below hb19)
            have T_w19 := Lib.hid (T_w18.out.below hb19)
            have T1_w19 := Lib.hid (T1_w18.out.below hb19)
            have B1_w19 := Lib.hid (B1_w18.out.below hb19)
            have T2_w19 := Lib.hid (T2_w18.out.below hb19)
            have B2_w19 := Lib.hid (B2_w18.out.below hb19)
            have None_w19 := Lib.hid (None_w18.out.below hb19)
            have z0_w19 : w.heap.size < w19.heap.size := Nat.lt_of_lt_of_le z0_w18 hb19.size
            have z1_w19 : w10.heap.size < w19.heap.size := Nat.lt_of_lt_of_le z1_w18 hb19.size
            have z2_w19 : w12.heap.size < w19.heap.size := Nat.lt_of_lt_of_le z2_w18 hb19.size
            have z3_w19 : w14.heap.size < w19.heap.size := Nat.lt_of_lt_of_le z3_w18 hb19.size
            have B_w19 := bt B_w18 hb19
            clear T0_w18 T_w18 T1_w18 B1_w18 T2_w18 B2_w18 None_w18 z0_w18 z1_w18 z2_w18 z3_w18 B_w18 hb19
            go_wp2_with fail
            go_at_call 21
            (with_reducible refine (hPort.out _).mono ?_)
            rintro e w' ⟨rfl, rfl⟩
            go_wp2_with fail
            have o_B2_0 := B2_w19.out.c (i := 0) rfl
            have o_B2_1 := B2_w19.out.c (i := 1) rfl
            have o_B2_2 := B2_w19.out.c (i := 2) rfl
            have o_T0_0 := T0_w19.out.c (i := 0) rfl
            have o_T0_1 := T0_w19.out.c (i := 1) rfl
            have o_T0_2 := T0_w19.out.c (i := 2) rfl
            refine wp_region_opsG (by kernel_rfl) (fun ix => match ix with | 0 => 128 | 1 => 129 | 2 => 130 | 3 => 131 | 4 => 132 | 5 => 133 | 6 => 134 | 7 => 135 | 8 => 136 | 9 => 137 | 10 => 138 | 11 => 14 | _ => 0) [(2, true)] (by kernel_rfl) (by kernel_rfl) (fun i v W => match i with | 0 => v = .int .i64 0 | 1 => v = .bool true | 2 => v = .bool true | 3 => v = tbv (.slice A2 n2 c2) s ag | 4 => v = tbv (.slice A n c) s ag | 5 => v = .int .i64 a | 6 => v = .int .i64 port | 7 => v = .int .i64 now | 8 => ∃ A n c, v = tbv (.slice A n c) s ag ∧ TabS W A n c bs' | 9 => v = .bool true | 10 => v = .bool true | 11 => v = .bool true | _ => True) (fun i v W W' h hb => by
                match i with
                | 0 => exact h
                | 1 => exact h
                | 2 => exact h
                | 3 => exact h
                | 4 => exact h
                | 5 => exact h
                | 6 => exact h
                | 7 => exact h
                | 9 => exact h
                | 10 => exact h
                | 11 => exact h
                | 8 => (obtain ⟨A, n, c, h1, h2⟩ := h; exact ⟨A, n, c, h1, h2.below hb⟩)
                | n + 12 => exact trivial) (fun g hg v W h => by
                simp only [List.mem_singleton] at hg
                subst hg
                exact h) ?_ ?_
            refine ⟨?_, ?_, ?_, ?_, ?_, ?_, ?_, ?_, ?_, ?_, ?_, ?_, trivial⟩
            · as_aux_lemma =>
                intro a9 W2 K hb hdep hk hK
                replace hK : ∀ v w', (v = .int .i64 0) → Below W2.heap.size W2 w' → K (a9.put (some 128) v) w' := hK
                have d18 : a9.tmps.getD 18 undef = .int .i64 0 := hk 18 (by kernel_rfl)
                clear hdep hk
                go_simp
                exact hK _ _ rfl (Below.refl _ _)
            · as_aux_lemma =>
                intro a9 W2 K hb hdep hk hK
                replace hK : ∀ v w', (v = .bool true) → Below W2.heap.size W2 w' → K (a9.put (some 129) v) w' := hK
                have d128 : a9.tmps.getD 128 undef = .int .i64 0 := hdep ⟨0, .data⟩ (by simp) rfl
                clear hdep hk
                go_simp
                exact hK _ _ rfl (Below.refl _ _)
            · as_aux_lemma =>
                intro a9 W2 K hb hdep hk hK
                replace hK : ∀ v w', (v = .bool true) → Below W2.heap.size W2 w' → K (a9.put (some 130) v) w' := hK
                have d129 : a9.tmps.getD 129 undef = .bool true := hdep ⟨1, .data⟩ (by simp) rfl
                clear hdep hk
                go_simp
                exact hK _ _ rfl (Below.refl _ _)
            · as_aux_lemma =>
                intro a9 W2 K hb hdep hk hK
                replace hK : ∀ v w', (v = tbv (.slice A2 n2 c2) s ag) → Below W2.heap.size W2 w' → K (a9.put (some 131) v) w' := hK
                have d17 : a9.tmps.getD 17 undef = .pointer (some ⟨w12.heap.size, 0, none⟩) := hk 17 (by kernel_rfl)
                have t0 := (hb.cell (p := ⟨w12.heap.size, 0, none⟩) z2_w19).trans o_B2_0
                have t1 := (hb.cell (p := ⟨w12.heap.size, 1, none⟩) z2_w19).trans o_B2_1
                have t2 := (hb.cell (p := ⟨w12.heap.size, 2, none⟩) z2_w19).trans o_B2_2
                clear hdep hk
                go_simp
                exact hK _ _ rfl (Below.refl _ _)
            · as_aux_lemma =>
                intro a9 W2 K hb hdep hk hK
                replace hK : ∀ v w', (v = tbv (.slice A n c) s ag) → Below W2.heap.size W2 w' → K (a9.put (some 132) v) w' := hK
                have d10 : a9.tmps.getD 10 undef = .pointer (some ⟨w.heap.size, 0, none⟩) := hk 10 (by kernel_rfl)
                have t0 := (hb.cell (p := ⟨w.heap.size, 0, none⟩) z0_w19).trans o_T0_0
                have t1 := (hb.cell (p := ⟨w.heap.size, 1, none⟩) z0_w19).trans o_T0_1
                have t2 := (hb.cell (p := ⟨w.heap.size, 2, none⟩) z0_w19).trans o_T0_2
                clear hdep hk
                go_simp
                exact hK _ _ rfl (Below.refl _ _)
            · as_aux_lemma =>
                intro a9 W2 K hb hdep hk hK
                replace hK : ∀ v w', (v = .int .i64 a) → Below W2.heap.size W2 w' → K (a9.put (some 133) v) w' := hK
                have d4 : a9.tmps.getD 4 undef = .int .i64 a := hk 4 (by kernel_rfl)
                clear hdep hk
                go_simp
                exact hK _ _ rfl (Below.refl _ _)
            · as_aux_lemma =>
                intro a9 W2 K hb hdep hk hK
                replace hK : ∀ v w', (v = .int .i64 port) → Below W2.heap.size W2 w' → K (a9.put (some 134) v) w' := hK
                have d5 : a9.tmps.getD 5 undef = .int .i64 port := hk 5 (by kernel_rfl)
                clear hdep hk
                go_simp
                exact hK _ _ rfl (Below.refl _ _)
            · as_aux_lemma =>
                intro a9 W2 K hb hdep hk hK
                replace hK : ∀ v w', (v = .int .i64 now) → Below W2.heap.size W2 w' → K (a9.put (some 135) v) w' := hK
                have d6 : a9.tmps.getD 6 undef = .int .i64 now := hk 6 (by kernel_rfl)
                clear hdep hk
                go_simp
                exact hK _ _ rfl (Below.refl _ _)
            · as_aux_lemma =>
                intro a9 W2 K hb hdep hk hK
                replace hK : ∀ v w', (∃ A n c, v = tbv (.slice A n c) s ag ∧ TabS w' A n c bs') → Below W2.heap.size W2 w' → K (a9.put (some 136) v) w' := hK
                have d132 : a9.tmps.getD 132 undef = tbv (.slice A n c) s ag := hdep ⟨4, .data⟩ (by simp) rfl
                have d133 : a9.tmps.getD 133 undef = .int .i64 a := hdep ⟨5, .data⟩ (by simp) rfl
                have d134 : a9.tmps.getD 134 undef = .int .i64 port := hdep ⟨6, .data⟩ (by simp) rfl
                have d135 : a9.tmps.getD 135 undef = .int .i64 now := hdep ⟨7, .data⟩ (by simp) rfl
                have hcall := r_learn s ag a port now (T_w19.out.below hb) hsm.out hbl.out hnb2.out hm.out
                rw [hrl.out] at hcall
                replace hcall := Lib.hid hcall
                clear hdep hk
                have q132 : a9.tmps[132]?.getD undef = tbv (.slice A n c) s ag := by simpa [Array.getD_eq_getD_getElem?] using d132
                clear d132
                go_simp
                refine hcall.out.mono ?_
                rintro e w9 ⟨A8, n8, c8, rfl, r1, r2⟩
                exact hK _ _ ⟨A8, n8, c8, rfl, r1⟩ r2
            · as_aux_lemma =>
                intro a9 W2 K hb hdep hk hK
                replace hK : ∀ v w', (v = .bool true) → Below W2.heap.size W2 w' → K (a9.put (some 137) v) w' := hK
                have d131 : a9.tmps.getD 131 undef = tbv (.slice A2 n2 c2) s ag := hdep ⟨3, .data⟩ (by simp) rfl
                obtain ⟨A8, n8, c8, d136, r1⟩ : ∃ A n c, a9.tmps.getD 136 undef = tbv (.slice A n c) s ag ∧ TabS W2 A n c bs' := hdep ⟨8, .data⟩ (by simp) rfl
                have hcall := Lib.hid (r_same s ag (T2_w19.out.below hb).tab r1 hsm'.out)
                clear hdep hk
                have q131 : a9.tmps[131]?.getD undef = tbv (.slice A2 n2 c2) s ag := by simpa [Array.getD_eq_getD_getElem?] using d131
                clear d131
                have q136 : a9.tmps[136]?.getD undef = tbv (.slice A8 n8 c8) s ag := by simpa [Array.getD_eq_getD_getElem?] using d136
                clear d136
                go_simp
                refine hcall.out.mono ?_
                rintro e w9 ⟨rfl, r2⟩
                exact hK _ _ rfl r2
            · as_aux_lemma =>
                intro a9 W2 K hb hdep hk hK
                replace hK : ∀ v w', (v = .bool true) → Below W2.heap.size W2 w' → K (a9.put (some 138) v) w' := hK
                have d130 : a9.tmps.getD 130 undef = .bool true := hdep ⟨2, .data⟩ (by simp) rfl
                have d137 : a9.tmps.getD 137 undef = .bool true := hdep ⟨9, .data⟩ (by simp) rfl
                clear hdep hk
                go_simp
                exact hK _ _ rfl (Below.refl _ _)
            · as_aux_lemma =>
                intro a9 W2 K hb hdep hk hK
                replace hK : ∀ v w', (v = .bool true) → Below W2.heap.size W2 w' → K (a9.put (some 14) v) w' := hK
                have d138 : a9.tmps.getD 138 undef = .bool true := hdep ⟨10, .data⟩ (by simp) rfl
                clear hdep hk
                go_simp
                exact hK _ _ rfl (Below.refl _ _)
            intro af w20 hqw20 hsp hk hn hdf
            have hx11 : af.tmps.getD 14 undef = .bool true := hsp 11 (by decide)
            clear hsp
            have s0 : af.tmps.getD 0 undef = .int .i64 nq := hk 0 (by kernel_rfl)
            have s1 : af.tmps.getD 1 undef = .int .i64 sq := hk 1 (by kernel_rfl)
            have s2 : af.tmps.getD 2 undef = .int .i64 gq := hk 2 (by kernel_rfl)
            have s4 : af.tmps.getD 4 undef = .int .i64 a := hk 4 (by kernel_rfl)
            have s5 : af.tmps.getD 5 undef = .int .i64 port := hk 5 (by kernel_rfl)
            have s6 : af.tmps.getD 6 undef = .int .i64 now := hk 6 (by kernel_rfl)
            have s10 : af.tmps.getD 10 undef = .pointer (some ⟨w.heap.size, 0, none⟩) := hk 10 (by kernel_rfl)
            have s15 : af.tmps.getD 15 undef = .pointer (some ⟨w10.heap.size, 0, none⟩) := hk 15 (by kernel_rfl)
            have s16 : af.tmps.getD 16 undef = .int .i64 2 := hk 16 (by kernel_rfl)
            have s17 : af.tmps.getD 17 undef = .pointer (some ⟨w12.heap.size, 0, none⟩) := hk 17 (by kernel_rfl)
            have s18 : af.tmps.getD 18 undef = .int .i64 0 := hk 18 (by kernel_rfl)
            have s19 : af.tmps.getD 19 undef = .int .i64 p := hk 19 (by kernel_rfl)
            have s20 : af.tmps.getD 20 undef = .int .i64 0 := hk 20 (by kernel_rfl)
            have s21 : af.tmps.getD 21 undef = .pointer (some ⟨w14.heap.size, 0, none⟩) := hk 21 (by kernel_rfl)
            have s14 : af.tmps.getD 14 undef = .bool true := hx11
            clear hk hx11
            obtain ⟨tm, df⟩ := af
            have e := arr_out tm 139 hn
            replace e : tm = #[tm.getD 0 undef, tm.getD 1 undef, tm.getD 2 undef, tm.getD 3 undef, tm.getD 4 undef, tm.getD 5 undef, tm.getD 6 undef, tm.getD 7 undef, tm.getD 8 undef, tm.getD 9 undef, tm.getD 10 undef, tm.getD 11 undef, tm.getD 12 undef, tm.getD 13 undef, tm.getD 14 undef, tm.getD 15 undef, tm.getD 16 undef, tm.getD 17 undef, tm.getD 18 undef, tm.getD 19 undef, tm.getD 20 undef, tm.getD 21 undef, tm.getD 22 undef, tm.getD 23 undef, tm.getD 24 undef, tm.getD 25 undef, tm.getD 26 undef, tm.getD 27 undef, tm.getD 28 undef, tm.getD 29 undef, tm.getD 30 undef, tm.getD 31 undef, tm.getD 32 undef, tm.getD 33 undef, tm.getD 34 undef, tm.getD 35 undef, tm.getD 36 undef, tm.getD 37 undef, tm.getD 38 undef, tm.getD 39 undef, tm.getD 40 undef, tm.getD 41 undef, tm.getD 42 undef, tm.getD 43 undef, tm.getD 44 undef, tm.getD 45 undef, tm.getD 46 undef, tm.getD 47 undef, tm.getD 48 undef, tm.getD 49 undef, tm.getD 50 undef, tm.getD 51 undef, tm.getD 52 undef, tm.getD 53 undef, tm.getD 54 undef, tm.getD 55 undef, tm.getD 56 undef, tm.getD 57 undef, tm.getD 58 undef, tm.getD 59 undef, tm.getD 60 undef, tm.getD 61 undef, tm.getD 62 undef, tm.getD 63 undef, tm.getD 64 undef, tm.getD 65 undef, tm.getD 66 undef, tm.getD 67 undef, tm.getD 68 undef, tm.getD 69 undef, tm.getD 70 undef, tm.getD 71 undef, tm.getD 72 undef, tm.getD 73 undef, tm.getD 74 undef, tm.getD 75 undef, tm.getD 76 undef, tm.getD 77 undef, tm.getD 78 undef, tm.getD 79 undef, tm.getD 80 undef, tm.getD 81 undef, tm.getD 82 undef, tm.getD 83 undef, tm.getD 84 undef, tm.getD 85 undef, tm.getD 86 undef, tm.getD 87 undef, tm.getD 88 undef, tm.getD 89 undef, tm.getD 90 undef, tm.getD 91 undef, tm.getD 92 undef, tm.getD 93 undef, tm.getD 94 undef, tm.getD 95 undef, tm.getD 96 undef, tm.getD 97 undef, tm.getD 98 undef, tm.getD 99 undef, tm.getD 100 undef, tm.getD 101 undef, tm.getD 102 undef, tm.getD 103 undef, tm.getD 104 undef, tm.getD 105 undef, tm.getD 106 undef, tm.getD 107 undef, tm.getD 108 undef, tm.getD 109 undef, tm.getD 110 undef, tm.getD 111 undef, tm.getD 112 undef, tm.getD 113 undef, tm.getD 114 undef, tm.getD 115 undef, tm.getD 116 undef, tm.getD 117 undef, tm.getD 118 undef, tm.getD 119 undef, tm.getD 120 undef, tm.getD 121 undef, tm.getD 122 undef, tm.getD 123 undef, tm.getD 124 undef, tm.getD 125 undef, tm.getD 126 undef, tm.getD 127 undef, tm.getD 128 undef, tm.getD 129 undef, tm.getD 130 undef, tm.getD 131 undef, tm.getD 132 undef, tm.getD 133 undef, tm.getD 134 undef, tm.getD 135 undef, tm.getD 136 undef, tm.getD 137 undef, tm.getD 138 undef] := e
            simp only at s0 s1 s2 s4 s5 s6 s10 s15 s16 s17 s18 s19 s20 s21 s14 hdf
            rw [s0, s1, s2, s4, s5, s6, s10, s15, s16, s17, s18, s19, s20, s21, s14] at e
            subst hdf
            clear s0 s1 s2 s4 s5 s6 s10 s15 s16 s17 s18 s19 s20 s21 s14 hn
            generalize tm.getD 3 undef = u3 at e
            generalize tm.getD 7 undef = u7 at e
            generalize tm.getD 8 undef = u8 at e
            generalize tm.getD 9 undef = u9 at e
            generalize tm.getD 11 undef = u11 at e
            generalize tm.getD 12 undef = u12 at e
            generalize tm.getD 13 undef = u13 at e
            generalize tm.getD 22 undef = u22 at e
            generalize tm.getD 23 undef = u23 at e
            generalize tm.getD 24 undef = u24 at e
            generalize tm.getD 25 undef = u25 at e
            generalize tm.getD 26 undef = u26 at e
            generalize tm.getD 27 undef = u27 at e
            generalize tm.getD 28 undef = u28 at e
            generalize tm.getD 29 undef = u29 at e
            generalize tm.getD 30 undef = u30 at e
            generalize tm.getD 31 undef = u31 at e
            generalize tm.getD 32 undef = u32 at e
            generalize tm.getD 33 undef = u33 at e
            generalize tm.getD 34 undef = u34 at e
            generalize tm.getD 35 undef = u35 at e
            generalize tm.getD 36 undef = u36 at e
            generalize tm.getD 37 undef = u37 at e
            generalize tm.getD 38 undef = u38 at e
            generalize tm.getD 39 undef = u39 at e
            generalize tm.getD 40 undef = u40 at e
            generalize tm.getD 41 undef = u41 at e
            generalize tm.getD 42 undef = u42 at e
            generalize tm.getD 43 undef = u43 at e
            generalize tm.getD 44 undef = u44 at e
            generalize tm.getD 45 undef = u45 at e
            generalize tm.getD 46 undef = u46 at e
            generalize tm.getD 47 undef = u47 at e
            generalize tm.getD 48 undef = u48 at e
            generalize tm.getD 49 undef = u49 at e
            generalize tm.getD 50 undef = u50 at e
            generalize tm.getD 51 undef = u51 at e
            generalize tm.getD 52 undef = u52 at e
            generalize tm.getD 53 undef = u53 at e
            generalize tm.getD 54 undef = u54 at e
            generalize tm.getD 55 undef = u55 at e
            generalize tm.getD 56 undef = u56 at e
            generalize tm.getD 57 undef = u57 at e
            generalize tm.getD 58 undef = u58 at e
            generalize tm.getD 59 undef = u59 at e
            generalize tm.getD 60 undef = u60 at e
            generalize tm.getD 61 undef = u61 at e
            generalize tm.getD 62 undef = u62 at e
            generalize tm.getD 63 undef = u63 at e
            generalize tm.getD 64 undef = u64 at e
            generalize tm.getD 65 undef = u65 at e
            generalize tm.getD 66 undef = u66 at e
            generalize tm.getD 67 undef = u67 at e
            generalize tm.getD 68 undef = u68 at e
            generalize tm.getD 69 undef = u69 at e
            generalize tm.getD 70 undef = u70 at e
            generalize tm.getD 71 undef = u71 at e
            generalize tm.getD 72 undef = u72 at e
            generalize tm.getD 73 undef = u73 at e
            generalize tm.getD 74 undef = u74 at e
            generalize tm.getD 75 undef = u75 at e
            generalize tm.getD 76 undef = u76 at e
            generalize tm.getD 77 undef = u77 at e
            generalize tm.getD 78 undef = u78 at e
            generalize tm.getD 79 undef = u79 at e
            generalize tm.getD 80 undef = u80 at e
            generalize tm.getD 81 undef = u81 at e
            generalize tm.getD 82 undef = u82 at e
            generalize tm.getD 83 undef = u83 at e
            generalize tm.getD 84 undef = u84 at e
            generalize tm.getD 85 undef = u85 at e
            generalize tm.getD 86 undef = u86 at e
            generalize tm.getD 87 undef = u87 at e
            generalize tm.getD 88 undef = u88 at e
            generalize tm.getD 89 undef = u89 at e
            generalize tm.getD 90 undef = u90 at e
            generalize tm.getD 91 undef = u91 at e
            generalize tm.getD 92 undef = u92 at e
            generalize tm.getD 93 undef = u93 at e
            generalize tm.getD 94 undef = u94 at e
            generalize tm.getD 95 undef = u95 at e
            generalize tm.getD 96 undef = u96 at e
            generalize tm.getD 97 undef = u97 at e
            generalize tm.getD 98 undef = u98 at e
            generalize tm.getD 99 undef = u99 at e
            generalize tm.getD 100 undef = u100 at e
            generalize tm.getD 101 undef = u101 at e
            generalize tm.getD 102 undef = u102 at e
            generalize tm.getD 103 undef = u103 at e
            generalize tm.getD 104 undef = u104 at e
            generalize tm.getD 105 undef = u105 at e
            generalize tm.getD 106 undef = u106 at e
            generalize tm.getD 107 undef = u107 at e
            generalize tm.getD 108 undef = u108 at e
            generalize tm.getD 109 undef = u109 at e
            generalize tm.getD 110 undef = u110 at e
            generalize tm.getD 111 undef = u111 at e
            generalize tm.getD 112 undef = u112 at e
            generalize tm.getD 113 undef = u113 at e
            generalize tm.getD 114 undef = u114 at e
            generalize tm.getD 115 undef = u115 at e
            generalize tm.getD 116 undef = u116 at e
            generalize tm.getD 117 undef = u117 at e
            generalize tm.getD 118 undef = u118 at e
            generalize tm.getD 119 undef = u119 at e
            generalize tm.getD 120 undef = u120 at e
            generalize tm.getD 121 undef = u121 at e
            generalize tm.getD 122 undef = u122 at e
            generalize tm.getD 123 undef = u123 at e
            generalize tm.getD 124 undef = u124 at e
            generalize tm.getD 125 undef = u125 at e
            generalize tm.getD 126 undef = u126 at e
            generalize tm.getD 127 undef = u127 at e
            generalize tm.getD 128 undef = u128 at e
            generalize tm.getD 129 undef = u129 at e
            generalize tm.getD 130 undef = u130 at e
            generalize tm.getD 131 undef = u131 at e
            generalize tm.getD 132 undef = u132 at e
            generalize tm.getD 133 undef = u133 at e
            generalize tm.getD 134 undef = u134 at e
            generalize tm.getD 135 undef = u135 at e
            generalize tm.getD 136 undef = u136 at e
            generalize tm.getD 137 undef = u137 at e
            generalize tm.getD 138 undef = u138 at e
            subst e
            have T0_w20 := Lib.hid (T0_w19.out.below hqw20)
            have T_w20 := Lib.hid (T_w19.out.below hqw20)
            have T1_w20 := Lib.hid (T1_w19.out.below hqw20)
            have B1_w20 := Lib.hid (B1_w19.out.below hqw20)
            have T2_w20 := Lib.hid (T2_w19.out.below hqw20)
            have B2_w20 := Lib.hid (B2_w19.out.below hqw20)
            have None_w20 := Lib.hid (None_w19.out.below hqw20)
            have z0_w20 : w.heap.size < w20.heap.size := Nat.lt_of_lt_of_le z0_w19 hqw20.size
            have z1_w20 : w10.heap.size < w20.heap.size := Nat.lt_of_lt_of_le z1_w19 hqw20.size
            have z2_w20 : w12.heap.size < w20.heap.size := Nat.lt_of_lt_of_le z2_w19 hqw20.size
            have z3_w20 : w14.heap.size < w20.heap.size := Nat.lt_of_lt_of_le z3_w19 hqw20.size
            have B_w20 := bt B_w19 hqw20
            clear T0_w19 T_w19 T1_w19 B1_w19 T2_w19 B2_w19 None_w19 z0_w19 z1_w19 z2_w19 z3_w19 B_w19 hqw20
            simp only [Exit.then]
            clear o_B2_0 o_B2_1 o_B2_2 o_T0_0 o_T0_1 o_T0_2
            go_wp2_with fail
            go_ret
            exact ⟨rfl, B_w20⟩
  | true =>
    have hnb := Lib.hid (sizesB_num hsz)
    have hsmN : Hid (Small (List.replicate nq.toNat ([] : List E))) := Lib.hid ⟨by have := numB_cases (sizesB_num hsz); rw [List.length_replicate]; omega, fun xs hx => by
        have := List.eq_of_mem_replicate hx
        subst this
        simp⟩
    rw [hsz] at hSz
    replace hsz := Lib.hid hsz
    cases hr : rightT bs s ag with
    | false =>
      have hlo : Hid (learnOk bs s ag a port now = false) := Lib.hid (by unfold learnOk; rw [hr]; rfl)
      have hfo : Hid (findOk bs s ag a now = false) := Lib.hid (by unfold findOk; rw [hr]; rfl)
      replace hr := Lib.hid hr
      go_wp2_with fail
      go_at_call 9
      (with_reducible refine (new_yes hsz.out).mono ?_)
      rintro e w10 ⟨A1, n1, c1, rfl, T1, hb10⟩
      have T0_w10 := Lib.hid (T0_w9.out.below hb10)
      have T_w10 := Lib.hid (T_w9.out.below hb10)
      have T1_w10 := Lib.hid (T1)
      have z0_w10 : w.heap.size < w10.heap.size := Nat.lt_of_lt_of_le z0_w9 hb10.size
      have B_w10 := bt B_w9 hb10
      clear T0_w9 T_w9 z0_w9 B_w9 hb10
      clear T1
      have o_T0_0 := T0_w10.out.c (i := 0) rfl
      have o_T0_1 := T0_w10.out.c (i := 1) rfl
      have o_T0_2 := T0_w10.out.c (i := 2) rfl
      go_wp2_with fail
      clear o_T0_0 o_T0_1 o_T0_2
      obtain ⟨w11, hw11⟩ : ∃ W, W = w10.alloc (.cells #[.slice A1 n1 c1, .int .i64 sq, .int .i64 gq] 24) := ⟨_, rfl⟩
      have bw11 : Below w10.heap.size w10 w11 := by rw [hw11]; exact (Below.refl _ _).alloc (Nat.le_refl _) _
      have Xw11 : Bx w11 w10.heap.size 24 #[.slice A1 n1 c1, .int .i64 sq, .int .i64 gq] := by rw [hw11]; exact Bx.new _ _ _ rfl
      rw [← hw11]
      clear hw11
      have T0_w11 := Lib.hid (T0_w10.out.below bw11)
      have T_w11 := Lib.hid (T_w10.out.below bw11)
      have T1_w11 := Lib.hid (T1_w10.out.below bw11)
      have B1_w11 := Lib.hid (Xw11)
      have z0_w11 : w.heap.size < w11.heap.size := Nat.lt_of_lt_of_le z0_w10 bw11.size
      have B_w11 := bt B_w10 bw11
      clear T0_w10 T_w10 T1_w10 z0_w10 B_w10 bw11
      have z1_w11 : w10.heap.size < w11.heap.size := Xw11.lt
      clear Xw11
      go_at_call 10
      (with_reducible refine (learn_no T_w11.out hsm.out hlo.out).mono ?_)
      rintro e w12 ⟨A2, n2, c2, rfl, T2, hb12⟩
      have T0_w12 := Lib.hid (T0_w11.out.below hb12)
      have T_w12 := Lib.hid (T_w11.out.below hb12)
      have T1_w12 := Lib.hid (T1_w11.out.below hb12)
      have B1_w12 := Lib.hid (B1_w11.out.below hb12)
      have T2_w12 := Lib.hid (T2)
      have z0_w12 : w.heap.size < w12.heap.size := Nat.lt_of_lt_of_le z0_w11 hb12.size
      have z1_w12 : w10.heap.size < w12.heap.size := Nat.lt_of_lt_of_le z1_w11 hb12.size
      have B_w12 := bt B_w11 hb12
      clear T0_w11 T_w11 T1_w11 B1_w11 z0_w11 z1_w11 B_w11 hb12
      clear T2
      have o_T0_0 := T0_w12.out.c (i := 0) rfl
      have o_T0_1 := T0_w12.out.c (i := 1) rfl
      have o_T0_2 := T0_w12.out.c (i := 2) rfl
      go_wp2_with fail
      clear o_T0_0 o_T0_1 o_T0_2
      obtain ⟨w13, hw13⟩ : ∃ W, W = w12.alloc (.cells #[.slice A2 n2 c2, .int .i64 0, .int .i64 0] 24) := ⟨_, rfl⟩
      have bw13 : Below w12.heap.size w12 w13 := by rw [hw13]; exact (Below.refl _ _).alloc (Nat.le_refl _) _
      have Xw13 : Bx w13 w12.heap.size 24 #[.slice A2 n2 c2, .int .i64 0, .int .i64 0] := by rw [hw13]; exact Bx.new _ _ _ rfl
      rw [← hw13]
      clear hw13
      have T0_w13 := Lib.hid (T0_w12.out.below bw13)
      have T_w13 := Lib.hid (T_w12.out.below bw13)
      have T1_w13 := Lib.hid (T1_w12.out.below bw13)
      have B1_w13 := Lib.hid (B1_w12.out.below bw13)
      have T2_w13 := Lib.hid (T2_w12.out.below bw13)
      have B2_w13 := Lib.hid (Xw13)
      have z0_w13 : w.heap.size < w13.heap.size := Nat.lt_of_lt_of_le z0_w12 bw13.size
      have z1_w13 : w10.heap.size < w13.heap.size := Nat.lt_of_lt_of_le z1_w12 bw13.size
      have B_w13 := bt B_w12 bw13
      clear T0_w12 T_w12 T1_w12 B1_w12 T2_w12 z0_w12 z1_w12 B_w12 bw13
      have z2_w13 : w12.heap.size < w13.heap.size := Xw13.lt
      clear Xw13
      go_at_call 11
      (with_reducible refine (find_no T_w13.out hsm.out hfo.out).mono ?_)
      rintro e w14 ⟨rfl, hb14⟩
      have T0_w14 := Lib.hid (T0_w13.out.below hb14)
      have T_w14 := Lib.hid (T_w13.out.below hb14)
      have T1_w14 := Lib.hid (T1_w13.out.below hb14)
      have B1_w14 := Lib.hid (B1_w13.out.below hb14)
      have T2_w14 := Lib.hid (T2_w13.out.below hb14)
      have B2_w14 := Lib.hid (B2_w13.out.below hb14)
      have z0_w14 : w.heap.size < w14.heap.size := Nat.lt_of_lt_of_le z0_w13 hb14.size
      have z1_w14 : w10.heap.size < w14.heap.size := Nat.lt_of_lt_of_le z1_w13 hb14.size
      have z2_w14 : w12.heap.size < w14.heap.size := Nat.lt_of_lt_of_le z2_w13 hb14.size
      have B_w14 := bt B_w13 hb14
      clear T0_w13 T_w13 T1_w13 B1_w13 T2_w13 B2_w13 z0_w13 z1_w13 z2_w13 B_w13 hb14
      have o_T0_0 := T0_w14.out.c (i := 0) rfl
      have o_T0_1 := T0_w14.out.c (i := 1) rfl
      have o_T0_2 := T0_w14.out.c (i := 2) rfl
      go_wp2_with fail
      clear o_T0_0 o_T0_1 o_T0_2
      obtain ⟨w15, hw15⟩ : ∃ W, W = w14.alloc (.cells #[.slice none 0 0, .int .i64 0, .int .i64 0] 24) := ⟨_, rfl⟩
      have bw15 : Below w14.heap.size w14 w15 := by rw [hw15]; exact (Below.refl _ _).alloc (Nat.le_refl _) _
      have Xw15 : Bx w15 w14.heap.size 24 #[.slice none 0 0, .int .i64 0, .int .i64 0] := by rw [hw15]; exact Bx.new _ _ _ rfl
      rw [← hw15]
      clear hw15
      have T0_w15 := Lib.hid (T0_w14.out.below bw15)
      have T_w15 := Lib.hid (T_w14.out.below bw15)
      have T1_w15 := Lib.hid (T1_w14.out.below bw15)
      have B1_w15 := Lib.hid (B1_w14.out.below bw15)
      have T2_w15 := Lib.hid (T2_w14.out.below bw15)
      have B2_w15 := Lib.hid (B2_w14.out.below bw15)
      have None_w15 := Lib.hid (Xw15)
      have z0_w15 : w.heap.size < w15.heap.size := Nat.lt_of_lt_of_le z0_w14 bw15.size
      have z1_w15 : w10.heap.size < w15.heap.size := Nat.lt_of_lt_of_le z1_w14 bw15.size
      have z2_w15 : w12.heap.size < w15.heap.size := Nat.lt_of_lt_of_le z2_w14 bw15.size
      have B_w15 := bt B_w14 bw15
      clear T0_w14 T_w14 T1_w14 B1_w14 T2_w14 B2_w14 z0_w14 z1_w14 z2_w14 B_w14 bw15
      have z3_w15 : w14.heap.size < w15.heap.size := Xw15.lt
      clear Xw15
      have K_T0_0 := cell_regrown (T0_w15.out.c (i := 0) rfl)
      have K_T0_1 := cell_regrown (T0_w15.out.c (i := 1) rfl)
      have K_T0_2 := cell_regrown (T0_w15.out.c (i := 2) rfl)
      have cC0 := fun (d : Nat) (os : Array Obj) => Calls.regrown_of (fdRight s ag (T_w15.out.below (below_regrown w15 d os)) hsm.out _ hr.out)
      have cC1 := fun (d : Nat) (os : Array Obj) => Calls.regrown_of (r_right s ag (T_w15.out.below (below_regrown w15 d os)) hsm.out _ hr.out)
      have cC2 := fun (d : Nat) (os : Array Obj) => Calls.regrown_of (alive_any (Go.Sort.grow (redrawn w15 d) os))
      refine wp_region_quiet_below (by kernel_rfl) (by kernel_rfl) ?_
      repeat (first | go_big_quiet_step (first | with_reducible exact cC0 _ _ | with_reducible exact cC1 _ _ | with_reducible exact cC2 _ _) | quiet_step (first | with_reducible exact cC0 _ _ | with_reducible exact cC1 _ _ | with_reducible exact cC2 _ _))
      refine wpQuiet_nil ?_
      intro _ hw'
      obtain ⟨⟨dq, osq⟩, hw''⟩ := hw'
      subst hw''
      have hqw16 := below_regrown w15 dq osq
      clear K_T0_0 K_T0_1 K_T0_2 cC0 cC1 cC2
      generalize Go.Sort.grow (redrawn w15 dq) osq = w16 at *
      have T0_w16 := Lib.hid (T0_w15.out.below hqw16)
      have T_w16 := Lib.hid (T_w15.out.below hqw16)
      have T1_w16 := Lib.hid (T1_w15.out.below hqw16)
      have B1_w16 := Lib.hid (B1_w15.out.below hqw16)
      have T2_w16 := Lib.hid (T2_w15.out.below hqw16)
      have B2_w16 := Lib.hid (B2_w15.out.below hqw16)
      have None_w16 := Lib.hid (None_w15.out.below hqw16)
      have z0_w16 : w.heap.size < w16.heap.size := Nat.lt_of_lt_of_le z0_w15 hqw16.size
      have z1_w16 : w10.heap.size < w16.heap.size := Nat.lt_of_lt_of_le z1_w15 hqw16.size
      have z2_w16 : w12.heap.size < w16.heap.size := Nat.lt_of_lt_of_le z2_w15 hqw16.size
      have z3_w16 : w14.heap.size < w16.heap.size := Nat.lt_of_lt_of_le z3_w15 hqw16.size
      have B_w16 := bt B_w15 hqw16
      clear T0_w15 T_w15 T1_w15 B1_w15 T2_w15 B2_w15 None_w15 z0_w15 z1_w15 z2_w15 z3_w15 B_w15 hqw16
      go_wp2_with fail
      go_at_call 15
      (with_reducible refine (hSz.out _).mono ?_)
      rintro e w' ⟨rfl, rfl⟩
      go_wp2_with fail
      have o_B1_0 := B1_w16.out.c (i := 0) rfl
      have o_B1_1 := B1_w16.out.c (i := 1) rfl
      have o_B1_2 := B1_w16.out.c (i := 2) rfl
      refine wp_region_opsG (by kernel_rfl) (fun ix => match ix with | 0 => 69 | 1 => 70 | 2 => 71 | 3 => 72 | 4 => 73 | 5 => 74 | 6 => 75 | 7 => 76 | 8 => 77 | 9 => 78 | 10 => 79 | _ => 0) [(2, false)] (by kernel_rfl) (by kernel_rfl) (fun i v W => match i with | 0 => v = .int .i64 0 | 1 => v = .bool false | 2 => v = .bool false | 3 => v = tbv (.slice A1 n1 c1) sq gq | 4 => v = .int .i64 nq | 5 => v = .int .i64 sq | 6 => v = .int .i64 gq | 7 => ∃ A n c, v = tbv (.slice A n c) sq gq ∧ TabS W A n c (List.replicate nq.toNat []) | 8 => v = .bool true | 9 => v = .bool false | 10 => v = .bool false | _ => True) (fun i v W W' h hb => by
          match i with
          | 0 => exact h
          | 1 => exact h
          | 2 => exact h
          | 3 => exact h
          | 4 => exact h
          | 5 => exact h
          | 6 => exact h
          | 8 => exact h
          | 9 => exact h
          | 10 => exact h
          | 7 => (obtain ⟨A, n, c, h1, h2⟩ := h; exact ⟨A, n, c, h1, h2.below hb⟩)
          | n + 11 => exact trivial) (fun g hg v W h => by
          simp only [List.mem_singleton] at hg
          subst hg
          exact h) ?_ ?_
      refine ⟨?_, ?_, ?_, ?_, ?_, ?_, ?_, ?_, ?_, ?_, ?_, trivial⟩
      · as_aux_lemma =>
          intro a9 W2 K hb hdep hk hK
          replace hK : ∀ v w', (v = .int .i64 0) → Below W2.heap.size W2 w' → K (a9.put (some 69) v) w' := hK
          have d16 : a9.tmps.getD 16 undef = .int .i64 0 := hk 16 (by kernel_rfl)
          clear hdep hk
          go_simp
          exact hK _ _ rfl (Below.refl _ _)
      · as_aux_lemma =>
          intro a9 W2 K hb hdep hk hK
          replace hK : ∀ v w', (v = .bool false) → Below W2.heap.size W2 w' → K (a9.put (some 70) v) w' := hK
          have d69 : a9.tmps.getD 69 undef = .int .i64 0 := hdep ⟨0, .data⟩ (by simp) rfl
          clear hdep hk
          go_simp
          exact hK _ _ rfl (Below.refl _ _)
      · as_aux_lemma =>
          intro a9 W2 K hb hdep hk hK
          replace hK : ∀ v w', (v = .bool false) → Below W2.heap.size W2 w' → K (a9.put (some 71) v) w' := hK
          have d70 : a9.tmps.getD 70 undef = .bool false := hdep ⟨1, .data⟩ (by simp) rfl
          clear hdep hk
          go_simp
          exact hK _ _ rfl (Below.refl _ _)
      · as_aux_lemma =>
          intro a9 W2 K hb hdep hk hK
          replace hK : ∀ v w', (v = tbv (.slice A1 n1 c1) sq gq) → Below W2.heap.size W2 w' → K (a9.put (some 72) v) w' := hK
          have d15 : a9.tmps.getD 15 undef = .pointer (some ⟨w10.heap.size, 0, none⟩) := hk 15 (by kernel_rfl)
          have t0 := (hb.cell (p := ⟨w10.heap.size, 0, none⟩) z1_w16).trans o_B1_0
          have t1 := (hb.cell (p := ⟨w10.heap.size, 1, none⟩) z1_w16).trans o_B1_1
          have t2 := (hb.cell (p := ⟨w10.heap.size, 2, none⟩) z1_w16).trans o_B1_2
          clear hdep hk
          go_simp
          exact hK _ _ rfl (Below.refl _ _)
      · as_aux_lemma =>
          intro a9 W2 K hb hdep hk hK
          replace hK : ∀ v w', (v = .int .i64 nq) → Below W2.heap.size W2 w' → K (a9.put (some 73) v) w' := hK
          have d0 : a9.tmps.getD 0 undef = .int .i64 nq := hk 0 (by kernel_rfl)
          clear hdep hk
          go_simp
          exact hK _ _ rfl (Below.refl _ _)
      · as_aux_lemma =>
          intro a9 W2 K hb hdep hk hK
          replace hK : ∀ v w', (v = .int .i64 sq) → Below W2.heap.size W2 w' → K (a9.put (some 74) v) w' := hK
          have d1 : a9.tmps.getD 1 undef = .int .i64 sq := hk 1 (by kernel_rfl)
          clear hdep hk
          go_simp
          exact hK _ _ rfl (Below.refl _ _)
      · as_aux_lemma =>
          intro a9 W2 K hb hdep hk hK
          replace hK : ∀ v w', (v = .int .i64 gq) → Below W2.heap.size W2 w' → K (a9.put (some 75) v) w' := hK
          have d2 : a9.tmps.getD 2 undef = .int .i64 gq := hk 2 (by kernel_rfl)
          clear hdep hk
          go_simp
          exact hK _ _ rfl (Below.refl _ _)
      · as_aux_lemma =>
          intro a9 W2 K hb hdep hk hK
          replace hK : ∀ v w', (∃ A n c, v = tbv (.slice A n c) sq gq ∧ TabS w' A n c (List.replicate nq.toNat [])) → Below W2.heap.size W2 w' → K (a9.put (some 76) v) w' := hK
          have d73 : a9.tmps.getD 73 undef = .int .i64 nq := hdep ⟨4, .data⟩ (by simp) rfl
          have d74 : a9.tmps.getD 74 undef = .int .i64 sq := hdep ⟨5, .data⟩ (by simp) rfl
          have d75 : a9.tmps.getD 75 undef = .int .i64 gq := hdep ⟨6, .data⟩ (by simp) rfl
          clear hdep hk
          go_simp
          refine (r_new nq sq gq _ hnb.out).mono ?_
          rintro e w9 ⟨A8, n8, c8, rfl, r1, r2⟩
          exact hK _ _ ⟨A8, n8, c8, rfl, r1⟩ r2
      · as_aux_lemma =>
          intro a9 W2 K hb hdep hk hK
          replace hK : ∀ v w', (v = .bool true) → Below W2.heap.size W2 w' → K (a9.put (some 77) v) w' := hK
          have d72 : a9.tmps.getD 72 undef = tbv (.slice A1 n1 c1) sq gq := hdep ⟨3, .data⟩ (by simp) rfl
          obtain ⟨A8, n8, c8, d76, r1⟩ : ∃ A n c, a9.tmps.getD 76 undef = tbv (.slice A n c) sq gq ∧ TabS W2 A n c (List.replicate nq.toNat []) := hdep ⟨7, .data⟩ (by simp) rfl
          have hcall := Lib.hid (r_same sq gq (T1_w16.out.below hb).tab r1 hsmN.out)
          clear hdep hk
          have q72 : a9.tmps[72]?.getD undef = tbv (.slice A1 n1 c1) sq gq := by simpa [Array.getD_eq_getD_getElem?] using d72
          clear d72
          have q76 : a9.tmps[76]?.getD undef = tbv (.slice A8 n8 c8) sq gq := by simpa [Array.getD_eq_getD_getElem?] using d76
          clear d76
          go_simp
          refine hcall.out.mono ?_
          rintro e w9 ⟨rfl, r2⟩
          exact hK _ _ rfl r2
      · as_aux_lemma =>
          intro a9 W2 K hb hdep hk hK
          replace hK : ∀ v w', (v = .bool false) → Below W2.heap.size W2 w' → K (a9.put (some 78) v) w' := hK
          have d77 : a9.tmps.getD 77 undef = .bool true := hdep ⟨8, .data⟩ (by simp) rfl
          clear hdep hk
          go_simp
          exact hK _ _ rfl (Below.refl _ _)
      · as_aux_lemma =>
          intro a9 W2 K hb hdep hk hK
          replace hK : ∀ v w', (v = .bool false) → Below W2.heap.size W2 w' → K (a9.put (some 79) v) w' := hK
          have d71 : a9.tmps.getD 71 undef = .bool false := hdep ⟨2, .data⟩ (by simp) rfl
          have d78 : a9.tmps.getD 78 undef = .bool false := hdep ⟨9, .data⟩ (by simp) rfl
          clear hdep hk
          go_simp
          exact hK _ _ rfl (Below.refl _ _)
      intro af w17 hqw17 hsp hk hn hdf
      have hx10 : af.tmps.getD 79 undef = .bool false := hsp 10 (by decide)
      clear hsp
      have s0 : af.tmps.getD 0 undef = .int .i64 nq := hk 0 (by kernel_rfl)
      have s1 : af.tmps.getD 1 undef = .int .i64 sq := hk 1 (by kernel_rfl)
      have s2 : af.tmps.getD 2 undef = .int .i64 gq := hk 2 (by kernel_rfl)
      have s4 : af.tmps.getD 4 undef = .int .i64 a := hk 4 (by kernel_rfl)
      have s5 : af.tmps.getD 5 undef = .int .i64 port := hk 5 (by kernel_rfl)
      have s6 : af.tmps.getD 6 undef = .int .i64 now := hk 6 (by kernel_rfl)
      have s10 : af.tmps.getD 10 undef = .pointer (some ⟨w.heap.size, 0, none⟩) := hk 10 (by kernel_rfl)
      have s14 : af.tmps.getD 14 undef = .bool false := hk 14 (by kernel_rfl)
      have s15 : af.tmps.getD 15 undef = .pointer (some ⟨w10.heap.size, 0, none⟩) := hk 15 (by kernel_rfl)
      have s16 : af.tmps.getD 16 undef = .int .i64 0 := hk 16 (by kernel_rfl)
      have s17 : af.tmps.getD 17 undef = .pointer (some ⟨w12.heap.size, 0, none⟩) := hk 17 (by kernel_rfl)
      have s18 : af.tmps.getD 18 undef = .int .i64 1 := hk 18 (by kernel_rfl)
      have s19 : af.tmps.getD 19 undef = .int .i64 0 := hk 19 (by kernel_rfl)
      have s20 : af.tmps.getD 20 undef = .int .i64 1 := hk 20 (by kernel_rfl)
      have s21 : af.tmps.getD 21 undef = .pointer (some ⟨w14.heap.size, 0, none⟩) := hk 21 (by kernel_rfl)
      have s79 : af.tmps.getD 79 undef = .bool false := hx10
      clear hk hx10
      obtain ⟨tm, df⟩ := af
      have e := arr_out tm 139 hn
      replace e : tm = #[tm.getD 0 undef, tm.getD 1 undef, tm.getD 2 undef, tm.getD 3 undef, tm.getD 4 undef, tm.getD 5 undef, tm.getD 6 undef, tm.getD 7 undef, tm.getD 8 undef, tm.getD 9 undef, tm.getD 10 undef, tm.getD 11 undef, tm.getD 12 undef, tm.getD 13 undef, tm.getD 14 undef, tm.getD 15 undef, tm.getD 16 undef, tm.getD 17 undef, tm.getD 18 undef, tm.getD 19 undef, tm.getD 20 undef, tm.getD 21 undef, tm.getD 22 undef, tm.getD 23 undef, tm.getD 24 undef, tm.getD 25 undef, tm.getD 26 undef, tm.getD 27 undef, tm.getD 28 undef, tm.getD 29 undef, tm.getD 30 undef, tm.getD 31 undef, tm.getD 32 undef, tm.getD 33 undef, tm.getD 34 undef, tm.getD 35 undef, tm.getD 36 undef, tm.getD 37 undef, tm.getD 38 undef, tm.getD 39 undef, tm.getD 40 undef, tm.getD 41 undef, tm.getD 42 undef, tm.getD 43 undef, tm.getD 44 undef, tm.getD 45 undef, tm.getD 46 undef, tm.getD 47 undef, tm.getD 48 undef, tm.getD 49 undef, tm.getD 50 undef, tm.getD 51 undef, tm.getD 52 undef, tm.getD 53 undef, tm.getD 54 undef, tm.getD 55 undef, tm.getD 56 undef, tm.getD 57 undef, tm.getD 58 undef, tm.getD 59 undef, tm.getD 60 undef, tm.getD 61 undef, tm.getD 62 undef, tm.getD 63 undef, tm.getD 64 undef, tm.getD 65 undef, tm.getD 66 undef, tm.getD 67 undef, tm.getD 68 undef, tm.getD 69 undef, tm.getD 70 undef, tm.getD 71 undef, tm.getD 72 undef, tm.getD 73 undef, tm.getD 74 undef, tm.getD 75 undef, tm.getD 76 undef, tm.getD 77 undef, tm.getD 78 undef, tm.getD 79 undef, tm.getD 80 undef, tm.getD 81 undef, tm.getD 82 undef, tm.getD 83 undef, tm.getD 84 undef, tm.getD 85 undef, tm.getD 86 undef, tm.getD 87 undef, tm.getD 88 undef, tm.getD 89 undef, tm.getD 90 undef, tm.getD 91 undef, tm.getD 92 undef, tm.getD 93 undef, tm.getD 94 undef, tm.getD 95 undef, tm.getD 96 undef, tm.getD 97 undef, tm.getD 98 undef, tm.getD 99 undef, tm.getD 100 undef, tm.getD 101 undef, tm.getD 102 undef, tm.getD 103 undef, tm.getD 104 undef, tm.getD 105 undef, tm.getD 106 undef, tm.getD 107 undef, tm.getD 108 undef, tm.getD 109 undef, tm.getD 110 undef, tm.getD 111 undef, tm.getD 112 undef, tm.getD 113 undef, tm.getD 114 undef, tm.getD 115 undef, tm.getD 116 undef, tm.getD 117 undef, tm.getD 118 undef, tm.getD 119 undef, tm.getD 120 undef, tm.getD 121 undef, tm.getD 122 undef, tm.getD 123 undef, tm.getD 124 undef, tm.getD 125 undef, tm.getD 126 undef, tm.getD 127 undef, tm.getD 128 undef, tm.getD 129 undef, tm.getD 130 undef, tm.getD 131 undef, tm.getD 132 undef, tm.getD 133 undef, tm.getD 134 undef, tm.getD 135 undef, tm.getD 136 undef, tm.getD 137 undef, tm.getD 138 undef] := e
      simp only at s0 s1 s2 s4 s5 s6 s10 s14 s15 s16 s17 s18 s19 s20 s21 s79 hdf
      rw [s0, s1, s2, s4, s5, s6, s10, s14, s15, s16, s17, s18, s19, s20, s21, s79] at e
      subst hdf
      clear s0 s1 s2 s4 s5 s6 s10 s14 s15 s16 s17 s18 s19 s20 s21 s79 hn
      generalize tm.getD 3 undef = u3 at e
      generalize tm.getD 7 undef = u7 at e
      generalize tm.getD 8 undef = u8 at e
      generalize tm.getD 9 undef = u9 at e
      generalize tm.getD 11 undef = u11 at e
      generalize tm.getD 12 undef = u12 at e
      generalize tm.getD 13 undef = u13 at e
      generalize tm.getD 22 undef = u22 at e
      generalize tm.getD 23 undef = u23 at e
      generalize tm.getD 24 undef = u24 at e
      generalize tm.getD 25 undef = u25 at e
      generalize tm.getD 26 undef = u26 at e
      generalize tm.getD 27 undef = u27 at e
      generalize tm.getD 28 undef = u28 at e
      generalize tm.getD 29 undef = u29 at e
      generalize tm.getD 30 undef = u30 at e
      generalize tm.getD 31 undef = u31 at e
      generalize tm.getD 32 undef = u32 at e
      generalize tm.getD 33 undef = u33 at e
      generalize tm.getD 34 undef = u34 at e
      generalize tm.getD 35 undef = u35 at e
      generalize tm.getD 36 undef = u36 at e
      generalize tm.getD 37 undef = u37 at e
      generalize tm.getD 38 undef = u38 at e
      generalize tm.getD 39 undef = u39 at e
      generalize tm.getD 40 undef = u40 at e
      generalize tm.getD 41 undef = u41 at e
      generalize tm.getD 42 undef = u42 at e
      generalize tm.getD 43 undef = u43 at e
      generalize tm.getD 44 undef = u44 at e
      generalize tm.getD 45 undef = u45 at e
      generalize tm.getD 46 undef = u46 at e
      generalize tm.getD 47 undef = u47 at e
      generalize tm.getD 48 undef = u48 at e
      generalize tm.getD 49 undef = u49 at e
      generalize tm.getD 50 undef = u50 at e
      generalize tm.getD 51 undef = u51 at e
      generalize tm.getD 52 undef = u52 at e
      generalize tm.getD 53 undef = u53 at e
      generalize tm.getD 54 undef = u54 at e
      generalize tm.getD 55 undef = u55 at e
      generalize tm.getD 56 undef = u56 at e
      generalize tm.getD 57 undef = u57 at e
      generalize tm.getD 58 undef = u58 at e
      generalize tm.getD 59 undef = u59 at e
      generalize tm.getD 60 undef = u60 at e
      generalize tm.getD 61 undef = u61 at e
      generalize tm.getD 62 undef = u62 at e
      generalize tm.getD 63 undef = u63 at e
      generalize tm.getD 64 undef = u64 at e
      generalize tm.getD 65 undef = u65 at e
      generalize tm.getD 66 undef = u66 at e
      generalize tm.getD 67 undef = u67 at e
      generalize tm.getD 68 undef = u68 at e
      generalize tm.getD 69 undef = u69 at e
      generalize tm.getD 70 undef = u70 at e
      generalize tm.getD 71 undef = u71 at e
      generalize tm.getD 72 undef = u72 at e
      generalize tm.getD 73 undef = u73 at e
      generalize tm.getD 74 undef = u74 at e
      generalize tm.getD 75 undef = u75 at e
      generalize tm.getD 76 undef = u76 at e
      generalize tm.getD 77 undef = u77 at e
      generalize tm.getD 78 undef = u78 at e
      generalize tm.getD 80 undef = u80 at e
      generalize tm.getD 81 undef = u81 at e
      generalize tm.getD 82 undef = u82 at e
      generalize tm.getD 83 undef = u83 at e
      generalize tm.getD 84 undef = u84 at e
      generalize tm.getD 85 undef = u85 at e
      generalize tm.getD 86 undef = u86 at e
      generalize tm.getD 87 undef = u87 at e
      generalize tm.getD 88 undef = u88 at e
      generalize tm.getD 89 undef = u89 at e
      generalize tm.getD 90 undef = u90 at e
      generalize tm.getD 91 undef = u91 at e
      generalize tm.getD 92 undef = u92 at e
      generalize tm.getD 93 undef = u93 at e
      generalize tm.getD 94 undef = u94 at e
      generalize tm.getD 95 undef = u95 at e
      generalize tm.getD 96 undef = u96 at e
      generalize tm.getD 97 undef = u97 at e
      generalize tm.getD 98 undef = u98 at e
      generalize tm.getD 99 undef = u99 at e
      generalize tm.getD 100 undef = u100 at e
      generalize tm.getD 101 undef = u101 at e
      generalize tm.getD 102 undef = u102 at e
      generalize tm.getD 103 undef = u103 at e
      generalize tm.getD 104 undef = u104 at e
      generalize tm.getD 105 undef = u105 at e
      generalize tm.getD 106 undef = u106 at e
      generalize tm.getD 107 undef = u107 at e
      generalize tm.getD 108 undef = u108 at e
      generalize tm.getD 109 undef = u109 at e
      generalize tm.getD 110 undef = u110 at e
      generalize tm.getD 111 undef = u111 at e
      generalize tm.getD 112 undef = u112 at e
      generalize tm.getD 113 undef = u113 at e
      generalize tm.getD 114 undef = u114 at e
      generalize tm.getD 115 undef = u115 at e
      generalize tm.getD 116 undef = u116 at e
      generalize tm.getD 117 undef = u117 at e
      generalize tm.getD 118 undef = u118 at e
      generalize tm.getD 119 undef = u119 at e
      generalize tm.getD 120 undef = u120 at e
      generalize tm.getD 121 undef = u121 at e
      generalize tm.getD 122 undef = u122 at e
      generalize tm.getD 123 undef = u123 at e
      generalize tm.getD 124 undef = u124 at e
      generalize tm.getD 125 undef = u125 at e
      generalize tm.getD 126 undef = u126 at e
      generalize tm.getD 127 undef = u127 at e
      generalize tm.getD 128 undef = u128 at e
      generalize tm.getD 129 undef = u129 at e
      generalize tm.getD 130 undef = u130 at e
      generalize tm.getD 131 undef = u131 at e
      generalize tm.getD 132 undef = u132 at e
      generalize tm.getD 133 undef = u133 at e
      generalize tm.getD 134 undef = u134 at e
      generalize tm.getD 135 undef = u135 at e
      generalize tm.getD 136 undef = u136 at e
      generalize tm.getD 137 undef = u137 at e
      generalize tm.getD 138 undef = u138 at e
      subst e
      have T0_w17 := Lib.hid (T0_w16.out.below hqw17)
      have T_w17 := Lib.hid (T_w16.out.below hqw17)
      have T1_w17 := Lib.hid (T1_w16.out.below hqw17)
      have B1_w17 := Lib.hid (B1_w16.out.below hqw17)
      have T2_w17 := Lib.hid (T2_w16.out.below hqw17)
      have B2_w17 := Lib.hid (B2_w16.out.below hqw17)
      have None_w17 := Lib.hid (None_w16.out.below hqw17)
      have z0_w17 : w.heap.size < w17.heap.size := Nat.lt_of_lt_of_le z0_w16 hqw17.size
      have z1_w17 : w10.heap.size < w17.heap.size := Nat.lt_of_lt_of_le z1_w16 hqw17.size
      have z2_w17 : w12.heap.size < w17.heap.size := Nat.lt_of_lt_of_le z2_w16 hqw17.size
      have z3_w17 : w14.heap.size < w17.heap.size := Nat.lt_of_lt_of_le z3_w16 hqw17.size
      have B_w17 := bt B_w16 hqw17
      clear T0_w16 T_w16 T1_w16 B1_w16 T2_w16 B2_w16 None_w16 z0_w16 z1_w16 z2_w16 z3_w16 B_w16 hqw17
      simp only [Exit.then]
      clear o_B1_0 o_B1_1 o_B1_2
      have o_T0_0 := T0_w17.out.c (i := 0) rfl
      have o_T0_1 := T0_w17.out.c (i := 1) rfl
      have o_T0_2 := T0_w17.out.c (i := 2) rfl
      go_wp2_with fail
      clear o_T0_0 o_T0_1 o_T0_2
      go_at_call 13
      (with_reducible refine (r_right s ag T_w17.out hsm.out _ hr.out).mono ?_)
      rintro e w18 ⟨rfl, hb18⟩
      have T0_w18 := Lib.hid (T0_w17.out.below hb18)
      have T_w18 := Lib.hid (T_w17.out.below hb18)
      have T1_w18 := Lib.hid (T1_w17.out.below hb18)
      have B1_w18 := Lib.hid (B1_w17.out.below hb18)
      have T2_w18 := Lib.hid (T2_w17.out.below hb18)
      have B2_w18 := Lib.hid (B2_w17.out.below hb18)
      have None_w18 := Lib.hid (None_w17.out.below hb18)
      have z0_w18 : w.heap.size < w18.heap.size := Nat.lt_of_lt_of_le z0_w17 hb18.size
      have z1_w18 : w10.heap.size < w18.heap.size := Nat.lt_of_lt_of_le z1_w17 hb18.size
      have z2_w18 : w12.heap.size < w18.heap.size := Nat.lt_of_lt_of_le z2_w17 hb18.size
      have z3_w18 : w14.heap.size < w18.heap.size := Nat.lt_of_lt_of_le z3_w17 hb18.size
      have B_w18 := bt B_w17 hb18
      clear T0_w17 T_w17 T1_w17 B1_w17 T2_w17 B2_w17 None_w17 z0_w17 z1_w17 z2_w17 z3_w17 B_w17 hb18
      have o_B2_0 := B2_w18.out.c (i := 0) rfl
      have o_B2_1 := B2_w18.out.c (i := 1) rfl
      have o_B2_2 := B2_w18.out.c (i := 2) rfl
      have o_None_0 := None_w18.out.c (i := 0) rfl
      have o_None_1 := None_w18.out.c (i := 1) rfl
      have o_None_2 := None_w18.out.c (i := 2) rfl
      go_wp2_with fail
      clear o_B2_0 o_B2_1 o_B2_2 o_None_0 o_None_1 o_None_2
      go_at_call 16
      (with_reducible refine (r_same 0 0 T2_w18.out.tab (TabS.empty _) small_nil).mono ?_)
      rintro e w19 ⟨rfl, hb19⟩
      have T0_w19 := Lib.hid (T0_w18.out.below hb19)
      have T_w19 := Lib.hid (T_w18.out.below hb19)
      have T1_w19 := Lib.hid (T1_w18.out.below hb19)
      have B1_w19 := Lib.hid (B1_w18.out.below hb19)
      have T2_w19 := Lib.hid (T2_w18.out.below hb19)
      have B2_w19 := Lib.hid (B2_w18.out.below hb19)
      have None_w19 := Lib.hid (None_w18.out.below hb19)
      have z0_w19 : w.heap.size < w19.heap.size := Nat.lt_of_lt_of_le z0_w18 hb19.size
      have z1_w19 : w10.heap.size < w19.heap.size := Nat.lt_of_lt_of_le z1_w18 hb19.size
      have z2_w19 : w12.heap.size < w19.heap.size := Nat.lt_of_lt_of_le z2_w18 hb19.size
      have z3_w19 : w14.heap.size < w19.heap.size := Nat.lt_of_lt_of_le z3_w18 hb19.size
      have B_w19 := bt B_w18 hb19
      clear T0_w18 T_w18 T1_w18 B1_w18 T2_w18 B2_w18 None_w18 z0_w18 z1_w18 z2_w18 z3_w18 B_w18 hb19
      go_wp2_with fail
      go_ret
      exact ⟨rfl, B_w19⟩
    | true =>
      have hnb2 := Lib.hid (right_sizes hr).1
      cases hm : macB a with
      | false =>
        rw [hm] at hMac
        have hlo : Hid (learnOk bs s ag a port now = false) := Lib.hid (by unfold learnOk; rw [hr, hm]; rfl)
        have hfo : Hid (findOk bs s ag a now = false) := Lib.hid (by unfold findOk; rw [hr, hm]; rfl)
        replace hr := Lib.hid hr
        replace hm := Lib.hid hm
        go_wp2_with fail
        go_at_call 9
        (with_reducible refine (new_yes hsz.out).mono ?_)
        rintro e w10 ⟨A1, n1, c1, rfl, T1, hb10⟩
        have T0_w10 := Lib.hid (T0_w9.out.below hb10)
        have T_w10 := Lib.hid (T_w9.out.below hb10)
        have T1_w10 := Lib.hid (T1)
        have z0_w10 : w.heap.size < w10.heap.size := Nat.lt_of_lt_of_le z0_w9 hb10.size
        have B_w10 := bt B_w9 hb10
        clear T0_w9 T_w9 z0_w9 B_w9 hb10
        clear T1
        have o_T0_0 := T0_w10.out.c (i := 0) rfl
        have o_T0_1 := T0_w10.out.c (i := 1) rfl
        have o_T0_2 := T0_w10.out.c (i := 2) rfl
        go_wp2_with fail
        clear o_T0_0 o_T0_1 o_T0_2
        obtain ⟨w11, hw11⟩ : ∃ W, W = w10.alloc (.cells #[.slice A1 n1 c1, .int .i64 sq, .int .i64 gq] 24) := ⟨_, rfl⟩
        have bw11 : Below w10.heap.size w10 w11 := by rw [hw11]; exact (Below.refl _ _).alloc (Nat.le_refl _) _
        have Xw11 : Bx w11 w10.heap.size 24 #[.slice A1 n1 c1, .int .i64 sq, .int .i64 gq] := by rw [hw11]; exact Bx.new _ _ _ rfl
        rw [← hw11]
        clear hw11
        have T0_w11 := Lib.hid (T0_w10.out.below bw11)
        have T_w11 := Lib.hid (T_w10.out.below bw11)
        have T1_w11 := Lib.hid (T1_w10.out.below bw11)
        have B1_w11 := Lib.hid (Xw11)
        have z0_w11 : w.heap.size < w11.heap.size := Nat.lt_of_lt_of_le z0_w10 bw11.size
        have B_w11 := bt B_w10 bw11
        clear T0_w10 T_w10 T1_w10 z0_w10 B_w10 bw11
        have z1_w11 : w10.heap.size < w11.heap.size := Xw11.lt
        clear Xw11
        go_at_call 10
        (with_reducible refine (learn_no T_w11.out hsm.out hlo.out).mono ?_)
        rintro e w12 ⟨A2, n2, c2, rfl, T2, hb12⟩
        have T0_w12 := Lib.hid (T0_w11.out.below hb12)
        have T_w12 := Lib.hid (T_w11.out.below hb12)
        have T1_w12 := Lib.hid (T1_w11.out.below hb12)
        have B1_w12 := Lib.hid (B1_w11.out.below hb12)
        have T2_w12 := Lib.hid (T2)
        have z0_w12 : w.heap.size < w12.heap.size := Nat.lt_of_lt_of_le z0_w11 hb12.size
        have z1_w12 : w10.heap.size < w12.heap.size := Nat.lt_of_lt_of_le z1_w11 hb12.size
        have B_w12 := bt B_w11 hb12
        clear T0_w11 T_w11 T1_w11 B1_w11 z0_w11 z1_w11 B_w11 hb12
        clear T2
        have o_T0_0 := T0_w12.out.c (i := 0) rfl
        have o_T0_1 := T0_w12.out.c (i := 1) rfl
        have o_T0_2 := T0_w12.out.c (i := 2) rfl
        go_wp2_with fail
        clear o_T0_0 o_T0_1 o_T0_2
        obtain ⟨w13, hw13⟩ : ∃ W, W = w12.alloc (.cells #[.slice A2 n2 c2, .int .i64 0, .int .i64 0] 24) := ⟨_, rfl⟩
        have bw13 : Below w12.heap.size w12 w13 := by rw [hw13]; exact (Below.refl _ _).alloc (Nat.le_refl _) _
        have Xw13 : Bx w13 w12.heap.size 24 #[.slice A2 n2 c2, .int .i64 0, .int .i64 0] := by rw [hw13]; exact Bx.new _ _ _ rfl
        rw [← hw13]
        clear hw13
        have T0_w13 := Lib.hid (T0_w12.out.below bw13)
        have T_w13 := Lib.hid (T_w12.out.below bw13)
        have T1_w13 := Lib.hid (T1_w12.out.below bw13)
        have B1_w13 := Lib.hid (B1_w12.out.below bw13)
        have T2_w13 := Lib.hid (T2_w12.out.below bw13)
        have B2_w13 := Lib.hid (Xw13)
        have z0_w13 : w.heap.size < w13.heap.size := Nat.lt_of_lt_of_le z0_w12 bw13.size
        have z1_w13 : w10.heap.size < w13.heap.size := Nat.lt_of_lt_of_le z1_w12 bw13.size
        have B_w13 := bt B_w12 bw13
        clear T0_w12 T_w12 T1_w12 B1_w12 T2_w12 z0_w12 z1_w12 B_w12 bw13
        have z2_w13 : w12.heap.size < w13.heap.size := Xw13.lt
        clear Xw13
        go_at_call 11
        (with_reducible refine (find_no T_w13.out hsm.out hfo.out).mono ?_)
        rintro e w14 ⟨rfl, hb14⟩
        have T0_w14 := Lib.hid (T0_w13.out.below hb14)
        have T_w14 := Lib.hid (T_w13.out.below hb14)
        have T1_w14 := Lib.hid (T1_w13.out.below hb14)
        have B1_w14 := Lib.hid (B1_w13.out.below hb14)
        have T2_w14 := Lib.hid (T2_w13.out.below hb14)
        have B2_w14 := Lib.hid (B2_w13.out.below hb14)
        have z0_w14 : w.heap.size < w14.heap.size := Nat.lt_of_lt_of_le z0_w13 hb14.size
        have z1_w14 : w10.heap.size < w14.heap.size := Nat.lt_of_lt_of_le z1_w13 hb14.size
        have z2_w14 : w12.heap.size < w14.heap.size := Nat.lt_of_lt_of_le z2_w13 hb14.size
        have B_w14 := bt B_w13 hb14
        clear T0_w13 T_w13 T1_w13 B1_w13 T2_w13 B2_w13 z0_w13 z1_w13 z2_w13 B_w13 hb14
        have o_T0_0 := T0_w14.out.c (i := 0) rfl
        have o_T0_1 := T0_w14.out.c (i := 1) rfl
        have o_T0_2 := T0_w14.out.c (i := 2) rfl
        go_wp2_with fail
        clear o_T0_0 o_T0_1 o_T0_2
        obtain ⟨w15, hw15⟩ : ∃ W, W = w14.alloc (.cells #[.slice none 0 0, .int .i64 0, .int .i64 0] 24) := ⟨_, rfl⟩
        have bw15 : Below w14.heap.size w14 w15 := by rw [hw15]; exact (Below.refl _ _).alloc (Nat.le_refl _) _
        have Xw15 : Bx w15 w14.heap.size 24 #[.slice none 0 0, .int .i64 0, .int .i64 0] := by rw [hw15]; exact Bx.new _ _ _ rfl
        rw [← hw15]
        clear hw15
        have T0_w15 := Lib.hid (T0_w14.out.below bw15)
        have T_w15 := Lib.hid (T_w14.out.below bw15)
        have T1_w15 := Lib.hid (T1_w14.out.below bw15)
        have B1_w15 := Lib.hid (B1_w14.out.below bw15)
        have T2_w15 := Lib.hid (T2_w14.out.below bw15)
        have B2_w15 := Lib.hid (B2_w14.out.below bw15)
        have None_w15 := Lib.hid (Xw15)
        have z0_w15 : w.heap.size < w15.heap.size := Nat.lt_of_lt_of_le z0_w14 bw15.size
        have z1_w15 : w10.heap.size < w15.heap.size := Nat.lt_of_lt_of_le z1_w14 bw15.size
        have z2_w15 : w12.heap.size < w15.heap.size := Nat.lt_of_lt_of_le z2_w14 bw15.size
        have B_w15 := bt B_w14 bw15
        clear T0_w14 T_w14 T1_w14 B1_w14 T2_w14 B2_w14 z0_w14 z1_w14 z2_w14 B_w14 bw15
        have z3_w15 : w14.heap.size < w15.heap.size := Xw15.lt
        clear Xw15
        have K_T0_0 := cell_regrown (T0_w15.out.c (i := 0) rfl)
        have K_T0_1 := cell_regrown (T0_w15.out.c (i := 1) rfl)
        have K_T0_2 := cell_regrown (T0_w15.out.c (i := 2) rfl)
        have cC0 := fun (d : Nat) (os : Array Obj) => Calls.regrown_of (fdRight s ag (T_w15.out.below (below_regrown w15 d os)) hsm.out _ hr.out)
        have cC1 := fun (d : Nat) (os : Array Obj) => Calls.regrown_of (r_right s ag (T_w15.out.below (below_regrown w15 d os)) hsm.out _ hr.out)
        have cC2 := fun (d : Nat) (os : Array Obj) => Calls.regrown_of (alive_any (Go.Sort.grow (redrawn w15 d) os))
        refine wp_region_quiet_below (by kernel_rfl) (by kernel_rfl) ?_
        repeat (first | go_big_quiet_step (first | with_reducible exact cC0 _ _ | with_reducible exact cC1 _ _ | with_reducible exact cC2 _ _) | quiet_step (first | with_reducible exact cC0 _ _ | with_reducible exact cC1 _ _ | with_reducible exact cC2 _ _))
        refine wpQuiet_nil ?_
        intro _ hw'
        obtain ⟨⟨dq, osq⟩, hw''⟩ := hw'
        subst hw''
        have hqw16 := below_regrown w15 dq osq
        clear K_T0_0 K_T0_1 K_T0_2 cC0 cC1 cC2
        generalize Go.Sort.grow (redrawn w15 dq) osq = w16 at *
        have T0_w16 := Lib.hid (T0_w15.out.below hqw16)
        have T_w16 := Lib.hid (T_w15.out.below hqw16)
        have T1_w16 := Lib.hid (T1_w15.out.below hqw16)
        have B1_w16 := Lib.hid (B1_w15.out.below hqw16)
        have T2_w16 := Lib.hid (T2_w15.out.below hqw16)
        have B2_w16 := Lib.hid (B2_w15.out.below hqw16)
        have None_w16 := Lib.hid (None_w15.out.below hqw16)
        have z0_w16 : w.heap.size < w16.heap.size := Nat.lt_of_lt_of_le z0_w15 hqw16.size
        have z1_w16 : w10.heap.size < w16.heap.size := Nat.lt_of_lt_of_le z1_w15 hqw16.size
        have z2_w16 : w12.heap.size < w16.heap.size := Nat.lt_of_lt_of_le z2_w15 hqw16.size
        have z3_w16 : w14.heap.size < w16.heap.size := Nat.lt_of_lt_of_le z3_w15 hqw16.size
        have B_w16 := bt B_w15 hqw16
        clear T0_w15 T_w15 T1_w15 B1_w15 T2_w15 B2_w15 None_w15 z0_w15 z1_w15 z2_w15 z3_w15 B_w15 hqw16
        go_wp2_with fail
        go_at_call 15
        (with_reducible refine (hSz.out _).mono ?_)
        rintro e w' ⟨rfl, rfl⟩
        go_wp2_with fail
        have o_B1_0 := B1_w16.out.c (i := 0) rfl
        have o_B1_1 := B1_w16.out.c (i := 1) rfl
        have o_B1_2 := B1_w16.out.c (i := 2) rfl
        refine wp_region_opsG (by kernel_rfl) (fun ix => match ix with | 0 => 69 | 1 => 70 | 2 => 71 | 3 => 72 | 4 => 73 | 5 => 74 | 6 => 75 | 7 => 76 | 8 => 77 | 9 => 78 | 10 => 79 | _ => 0) [(2, false)] (by kernel_rfl) (by kernel_rfl) (fun i v W => match i with | 0 => v = .int .i64 0 | 1 => v = .bool false | 2 => v = .bool false | 3 => v = tbv (.slice A1 n1 c1) sq gq | 4 => v = .int .i64 nq | 5 => v = .int .i64 sq | 6 => v = .int .i64 gq | 7 => ∃ A n c, v = tbv (.slice A n c) sq gq ∧ TabS W A n c (List.replicate nq.toNat []) | 8 => v = .bool true | 9 => v = .bool false | 10 => v = .bool false | _ => True) (fun i v W W' h hb => by
            match i with
            | 0 => exact h
            | 1 => exact h
            | 2 => exact h
            | 3 => exact h
            | 4 => exact h
            | 5 => exact h
            | 6 => exact h
            | 8 => exact h
            | 9 => exact h
            | 10 => exact h
            | 7 => (obtain ⟨A, n, c, h1, h2⟩ := h; exact ⟨A, n, c, h1, h2.below hb⟩)
            | n + 11 => exact trivial) (fun g hg v W h => by
            simp only [List.mem_singleton] at hg
            subst hg
            exact h) ?_ ?_
        refine ⟨?_, ?_, ?_, ?_, ?_, ?_, ?_, ?_, ?_, ?_, ?_, trivial⟩
        · as_aux_lemma =>
            intro a9 W2 K hb hdep hk hK
            replace hK : ∀ v w', (v = .int .i64 0) → Below W2.heap.size W2 w' → K (a9.put (some 69) v) w' := hK
            have d16 : a9.tmps.getD 16 undef = .int .i64 0 := hk 16 (by kernel_rfl)
            clear hdep hk
            go_simp
            exact hK _ _ rfl (Below.refl _ _)
        · as_aux_lemma =>
            intro a9 W2 K hb hdep hk hK
            replace hK : ∀ v w', (v = .bool false) → Below W2.heap.size W2 w' → K (a9.put (some 70) v) w' := hK
            have d69 : a9.tmps.getD 69 undef = .int .i64 0 := hdep ⟨0, .data⟩ (by simp) rfl
            clear hdep hk
            go_simp
            exact hK _ _ rfl (Below.refl _ _)
        · as_aux_lemma =>
            intro a9 W2 K hb hdep hk hK
            replace hK : ∀ v w', (v = .bool false) → Below W2.heap.size W2 w' → K (a9.put (some 71) v) w' := hK
            have d70 : a9.tmps.getD 70 undef = .bool false := hdep ⟨1, .data⟩ (by simp) rfl
            clear hdep hk
            go_simp
            exact hK _ _ rfl (Below.refl _ _)
        · as_aux_lemma =>
            intro a9 W2 K hb hdep hk hK
            replace hK : ∀ v w', (v = tbv (.slice A1 n1 c1) sq gq) → Below W2.heap.size W2 w' → K (a9.put (some 72) v) w' := hK
            have d15 : a9.tmps.getD 15 undef = .pointer (some ⟨w10.heap.size, 0, none⟩) := hk 15 (by kernel_rfl)
            have t0 := (hb.cell (p := ⟨w10.heap.size, 0, none⟩) z1_w16).trans o_B1_0
            have t1 := (hb.cell (p := ⟨w10.heap.size, 1, none⟩) z1_w16).trans o_B1_1
            have t2 := (hb.cell (p := ⟨w10.heap.size, 2, none⟩) z1_w16).trans o_B1_2
            clear hdep hk
            go_simp
            exact hK _ _ rfl (Below.refl _ _)
        · as_aux_lemma =>
            intro a9 W2 K hb hdep hk hK
            replace hK : ∀ v w', (v = .int .i64 nq) → Below W2.heap.size W2 w' → K (a9.put (some 73) v) w' := hK
            have d0 : a9.tmps.getD 0 undef = .int .i64 nq := hk 0 (by kernel_rfl)
            clear hdep hk
            go_simp
            exact hK _ _ rfl (Below.refl _ _)
        · as_aux_lemma =>
            intro a9 W2 K hb hdep hk hK
            replace hK : ∀ v w', (v = .int .i64 sq) → Below W2.heap.size W2 w' → K (a9.put (some 74) v) w' := hK
            have d1 : a9.tmps.getD 1 undef = .int .i64 sq := hk 1 (by kernel_rfl)
            clear hdep hk
            go_simp
            exact hK _ _ rfl (Below.refl _ _)
        · as_aux_lemma =>
            intro a9 W2 K hb hdep hk hK
            replace hK : ∀ v w', (v = .int .i64 gq) → Below W2.heap.size W2 w' → K (a9.put (some 75) v) w' := hK
            have d2 : a9.tmps.getD 2 undef = .int .i64 gq := hk 2 (by kernel_rfl)
            clear hdep hk
            go_simp
            exact hK _ _ rfl (Below.refl _ _)
        · as_aux_lemma =>
            intro a9 W2 K hb hdep hk hK
            replace hK : ∀ v w', (∃ A n c, v = tbv (.slice A n c) sq gq ∧ TabS w' A n c (List.replicate nq.toNat [])) → Below W2.heap.size W2 w' → K (a9.put (some 76) v) w' := hK
            have d73 : a9.tmps.getD 73 undef = .int .i64 nq := hdep ⟨4, .data⟩ (by simp) rfl
            have d74 : a9.tmps.getD 74 undef = .int .i64 sq := hdep ⟨5, .data⟩ (by simp) rfl
            have d75 : a9.tmps.getD 75 undef = .int .i64 gq := hdep ⟨6, .data⟩ (by simp) rfl
            clear hdep hk
            go_simp
            refine (r_new nq sq gq _ hnb.out).mono ?_
            rintro e w9 ⟨A8, n8, c8, rfl, r1, r2⟩
            exact hK _ _ ⟨A8, n8, c8, rfl, r1⟩ r2
        · as_aux_lemma =>
            intro a9 W2 K hb hdep hk hK
            replace hK : ∀ v w', (v = .bool true) → Below W2.heap.size W2 w' → K (a9.put (some 77) v) w' := hK
            have d72 : a9.tmps.getD 72 undef = tbv (.slice A1 n1 c1) sq gq := hdep ⟨3, .data⟩ (by simp) rfl
            obtain ⟨A8, n8, c8, d76, r1⟩ : ∃ A n c, a9.tmps.getD 76 undef = tbv (.slice A n c) sq gq ∧ TabS W2 A n c (List.replicate nq.toNat []) := hdep ⟨7, .data⟩ (by simp) rfl
            have hcall := Lib.hid (r_same sq gq (T1_w16.out.below hb).tab r1 hsmN.out)
            clear hdep hk
            have q72 : a9.tmps[72]?.getD undef = tbv (.slice A1 n1 c1) sq gq := by simpa [Array.getD_eq_getD_getElem?] using d72
            clear d72
            have q76 : a9.tmps[76]?.getD undef = tbv (.slice A8 n8 c8) sq gq := by simpa [Array.getD_eq_getD_getElem?] using d76
            clear d76
            go_simp
            refine hcall.out.mono ?_
            rintro e w9 ⟨rfl, r2⟩
            exact hK _ _ rfl r2
        · as_aux_lemma =>
            intro a9 W2 K hb hdep hk hK
            replace hK : ∀ v w', (v = .bool false) → Below W2.heap.size W2 w' → K (a9.put (some 78) v) w' := hK
            have d77 : a9.tmps.getD 77 undef = .bool true := hdep ⟨8, .data⟩ (by simp) rfl
            clear hdep hk
            go_simp
            exact hK _ _ rfl (Below.refl _ _)
        · as_aux_lemma =>
            intro a9 W2 K hb hdep hk hK
            replace hK : ∀ v w', (v = .bool false) → Below W2.heap.size W2 w' → K (a9.put (some 79) v) w' := hK
            have d71 : a9.tmps.getD 71 undef = .bool false := hdep ⟨2, .data⟩ (by simp) rfl
            have d78 : a9.tmps.getD 78 undef = .bool false := hdep ⟨9, .data⟩ (by simp) rfl
            clear hdep hk
            go_simp
            exact hK _ _ rfl (Below.refl _ _)
        intro af w17 hqw17 hsp hk hn hdf
        have hx10 : af.tmps.getD 79 undef = .bool false := hsp 10 (by decide)
        clear hsp
        have s0 : af.tmps.getD 0 undef = .int .i64 nq := hk 0 (by kernel_rfl)
        have s1 : af.tmps.getD 1 undef = .int .i64 sq := hk 1 (by kernel_rfl)
        have s2 : af.tmps.getD 2 undef = .int .i64 gq := hk 2 (by kernel_rfl)
        have s4 : af.tmps.getD 4 undef = .int .i64 a := hk 4 (by kernel_rfl)
        have s5 : af.tmps.getD 5 undef = .int .i64 port := hk 5 (by kernel_rfl)
        have s6 : af.tmps.getD 6 undef = .int .i64 now := hk 6 (by kernel_rfl)
        have s10 : af.tmps.getD 10 undef = .pointer (some ⟨w.heap.size, 0, none⟩) := hk 10 (by kernel_rfl)
        have s14 : af.tmps.getD 14 undef = .bool false := hk 14 (by kernel_rfl)
        have s15 : af.tmps.getD 15 undef = .pointer (some ⟨w10.heap.size, 0, none⟩) := hk 15 (by kernel_rfl)
        have s16 : af.tmps.getD 16 undef = .int .i64 0 := hk 16 (by kernel_rfl)
        have s17 : af.tmps.getD 17 undef = .pointer (some ⟨w12.heap.size, 0, none⟩) := hk 17 (by kernel_rfl)
        have s18 : af.tmps.getD 18 undef = .int .i64 1 := hk 18 (by kernel_rfl)
        have s19 : af.tmps.getD 19 undef = .int .i64 0 := hk 19 (by kernel_rfl)
        have s20 : af.tmps.getD 20 undef = .int .i64 1 := hk 20 (by kernel_rfl)
        have s21 : af.tmps.getD 21 undef = .pointer (some ⟨w14.heap.size, 0, none⟩) := hk 21 (by kernel_rfl)
        have s79 : af.tmps.getD 79 undef = .bool false := hx10
        clear hk hx10
        obtain ⟨tm, df⟩ := af
        have e := arr_out tm 139 hn
        replace e : tm = #[tm.getD 0 undef, tm.getD 1 undef, tm.getD 2 undef, tm.getD 3 undef, tm.getD 4 undef, tm.getD 5 undef, tm.getD 6 undef, tm.getD 7 undef, tm.getD 8 undef, tm.getD 9 undef, tm.getD 10 undef, tm.getD 11 undef, tm.getD 12 undef, tm.getD 13 undef, tm.getD 14 undef, tm.getD 15 undef, tm.getD 16 undef, tm.getD 17 undef, tm.getD 18 undef, tm.getD 19 undef, tm.getD 20 undef, tm.getD 21 undef, tm.getD 22 undef, tm.getD 23 undef, tm.getD 24 undef, tm.getD 25 undef, tm.getD 26 undef, tm.getD 27 undef, tm.getD 28 undef, tm.getD 29 undef, tm.getD 30 undef, tm.getD 31 undef, tm.getD 32 undef, tm.getD 33 undef, tm.getD 34 undef, tm.getD 35 undef, tm.getD 36 undef, tm.getD 37 undef, tm.getD 38 undef, tm.getD 39 undef, tm.getD 40 undef, tm.getD 41 undef, tm.getD 42 undef, tm.getD 43 undef, tm.getD 44 undef, tm.getD 45 undef, tm.getD 46 undef, tm.getD 47 undef, tm.getD 48 undef, tm.getD 49 undef, tm.getD 50 undef, tm.getD 51 undef, tm.getD 52 undef, tm.getD 53 undef, tm.getD 54 undef, tm.getD 55 undef, tm.getD 56 undef, tm.getD 57 undef, tm.getD 58 undef, tm.getD 59 undef, tm.getD 60 undef, tm.getD 61 undef, tm.getD 62 undef, tm.getD 63 undef, tm.getD 64 undef, tm.getD 65 undef, tm.getD 66 undef, tm.getD 67 undef, tm.getD 68 undef, tm.getD 69 undef, tm.getD 70 undef, tm.getD 71 undef, tm.getD 72 undef, tm.getD 73 undef, tm.getD 74 undef, tm.getD 75 undef, tm.getD 76 undef, tm.getD 77 undef, tm.getD 78 undef, tm.getD 79 undef, tm.getD 80 undef, tm.getD 81 undef, tm.getD 82 undef, tm.getD 83 undef, tm.getD 84 undef, tm.getD 85 undef, tm.getD 86 undef, tm.getD 87 undef, tm.getD 88 undef, tm.getD 89 undef, tm.getD 90 undef, tm.getD 91 undef, tm.getD 92 undef, tm.getD 93 undef, tm.getD 94 undef, tm.getD 95 undef, tm.getD 96 undef, tm.getD 97 undef, tm.getD 98 undef, tm.getD 99 undef, tm.getD 100 undef, tm.getD 101 undef, tm.getD 102 undef, tm.getD 103 undef, tm.getD 104 undef, tm.getD 105 undef, tm.getD 106 undef, tm.getD 107 undef, tm.getD 108 undef, tm.getD 109 undef, tm.getD 110 undef, tm.getD 111 undef, tm.getD 112 undef, tm.getD 113 undef, tm.getD 114 undef, tm.getD 115 undef, tm.getD 116 undef, tm.getD 117 undef, tm.getD 118 undef, tm.getD 119 undef, tm.getD 120 undef, tm.getD 121 undef, tm.getD 122 undef, tm.getD 123 undef, tm.getD 124 undef, tm.getD 125 undef, tm.getD 126 undef, tm.getD 127 undef, tm.getD 128 undef, tm.getD 129 undef, tm.getD 130 undef, tm.getD 131 undef, tm.getD 132 undef, tm.getD 133 undef, tm.getD 134 undef, tm.getD 135 undef, tm.getD 136 undef, tm.getD 137 undef, tm.getD 138 undef] := e
        simp only at s0 s1 s2 s4 s5 s6 s10 s14 s15 s16 s17 s18 s19 s20 s21 s79 hdf
        rw [s0, s1, s2, s4, s5, s6, s10, s14, s15, s16, s17, s18, s19, s20, s21, s79] at e
        subst hdf
        clear s0 s1 s2 s4 s5 s6 s10 s14 s15 s16 s17 s18 s19 s20 s21 s79 hn
        generalize tm.getD 3 undef = u3 at e
        generalize tm.getD 7 undef = u7 at e
        generalize tm.getD 8 undef = u8 at e
        generalize tm.getD 9 undef = u9 at e
        generalize tm.getD 11 undef = u11 at e
        generalize tm.getD 12 undef = u12 at e
        generalize tm.getD 13 undef = u13 at e
        generalize tm.getD 22 undef = u22 at e
        generalize tm.getD 23 undef = u23 at e
        generalize tm.getD 24 undef = u24 at e
        generalize tm.getD 25 undef = u25 at e
        generalize tm.getD 26 undef = u26 at e
        generalize tm.getD 27 undef = u27 at e
        generalize tm.getD 28 undef = u28 at e
        generalize tm.getD 29 undef = u29 at e
        generalize tm.getD 30 undef = u30 at e
        generalize tm.getD 31 undef = u31 at e
        generalize tm.getD 32 undef = u32 at e
        generalize tm.getD 33 undef = u33 at e
        generalize tm.getD 34 undef = u34 at e
        generalize tm.getD 35 undef = u35 at e
        generalize tm.getD 36 undef = u36 at e
        generalize tm.getD 37 undef = u37 at e
        generalize tm.getD 38 undef = u38 at e
        generalize tm.getD 39 undef = u39 at e
        generalize tm.getD 40 undef = u40 at e
        generalize tm.getD 41 undef = u41 at e
        generalize tm.getD 42 undef = u42 at e
        generalize tm.getD 43 undef = u43 at e
        generalize tm.getD 44 undef = u44 at e
        generalize tm.getD 45 undef = u45 at e
        generalize tm.getD 46 undef = u46 at e
        generalize tm.getD 47 undef = u47 at e
        generalize tm.getD 48 undef = u48 at e
        generalize tm.getD 49 undef = u49 at e
        generalize tm.getD 50 undef = u50 at e
        generalize tm.getD 51 undef = u51 at e
        generalize tm.getD 52 undef = u52 at e
        generalize tm.getD 53 undef = u53 at e
        generalize tm.getD 54 undef = u54 at e
        generalize tm.getD 55 undef = u55 at e
        generalize tm.getD 56 undef = u56 at e
        generalize tm.getD 57 undef = u57 at e
        generalize tm.getD 58 undef = u58 at e
        generalize tm.getD 59 undef = u59 at e
        generalize tm.getD 60 undef = u60 at e
        generalize tm.getD 61 undef = u61 at e
        generalize tm.getD 62 undef = u62 at e
        generalize tm.getD 63 undef = u63 at e
        generalize tm.getD 64 undef = u64 at e
        generalize tm.getD 65 undef = u65 at e
        generalize tm.getD 66 undef = u66 at e
        generalize tm.getD 67 undef = u67 at e
        generalize tm.getD 68 undef = u68 at e
        generalize tm.getD 69 undef = u69 at e
        generalize tm.getD 70 undef = u70 at e
        generalize tm.getD 71 undef = u71 at e
        generalize tm.getD 72 undef = u72 at e
        generalize tm.getD 73 undef = u73 at e
        generalize tm.getD 74 undef = u74 at e
        generalize tm.getD 75 undef = u75 at e
        generalize tm.getD 76 undef = u76 at e
        generalize tm.getD 77 undef = u77 at e
        generalize tm.getD 78 undef = u78 at e
        generalize tm.getD 80 undef = u80 at e
        generalize tm.getD 81 undef = u81 at e
        generalize tm.getD 82 undef = u82 at e
        generalize tm.getD 83 undef = u83 at e
        generalize tm.getD 84 undef = u84 at e
        generalize tm.getD 85 undef = u85 at e
        generalize tm.getD 86 undef = u86 at e
        generalize tm.getD 87 undef = u87 at e
        generalize tm.getD 88 undef = u88 at e
        generalize tm.getD 89 undef = u89 at e
        generalize tm.getD 90 undef = u90 at e
        generalize tm.getD 91 undef = u91 at e
        generalize tm.getD 92 undef = u92 at e
        generalize tm.getD 93 undef = u93 at e
        generalize tm.getD 94 undef = u94 at e
        generalize tm.getD 95 undef = u95 at e
        generalize tm.getD 96 undef = u96 at e
        generalize tm.getD 97 undef = u97 at e
        generalize tm.getD 98 undef = u98 at e
        generalize tm.getD 99 undef = u99 at e
        generalize tm.getD 100 undef = u100 at e
        generalize tm.getD 101 undef = u101 at e
        generalize tm.getD 102 undef = u102 at e
        generalize tm.getD 103 undef = u103 at e
        generalize tm.getD 104 undef = u104 at e
        generalize tm.getD 105 undef = u105 at e
        generalize tm.getD 106 undef = u106 at e
        generalize tm.getD 107 undef = u107 at e
        generalize tm.getD 108 undef = u108 at e
        generalize tm.getD 109 undef = u109 at e
        generalize tm.getD 110 undef = u110 at e
        generalize tm.getD 111 undef = u111 at e
        generalize tm.getD 112 undef = u112 at e
        generalize tm.getD 113 undef = u113 at e
        generalize tm.getD 114 undef = u114 at e
        generalize tm.getD 115 undef = u115 at e
        generalize tm.getD 116 undef = u116 at e
        generalize tm.getD 117 undef = u117 at e
        generalize tm.getD 118 undef = u118 at e
        generalize tm.getD 119 undef = u119 at e
        generalize tm.getD 120 undef = u120 at e
        generalize tm.getD 121 undef = u121 at e
        generalize tm.getD 122 undef = u122 at e
        generalize tm.getD 123 undef = u123 at e
        generalize tm.getD 124 undef = u124 at e
        generalize tm.getD 125 undef = u125 at e
        generalize tm.getD 126 undef = u126 at e
        generalize tm.getD 127 undef = u127 at e
        generalize tm.getD 128 undef = u128 at e
        generalize tm.getD 129 undef = u129 at e
        generalize tm.getD 130 undef = u130 at e
        generalize tm.getD 131 undef = u131 at e
        generalize tm.getD 132 undef = u132 at e
        generalize tm.getD 133 undef = u133 at e
        generalize tm.getD 134 undef = u134 at e
        generalize tm.getD 135 undef = u135 at e
        generalize tm.getD 136 undef = u136 at e
        generalize tm.getD 137 undef = u137 at e
        generalize tm.getD 138 undef = u138 at e
        subst e
        have T0_w17 := Lib.hid (T0_w16.out.below hqw17)
        have T_w17 := Lib.hid (T_w16.out.below hqw17)
        have T1_w17 := Lib.hid (T1_w16.out.below hqw17)
        have B1_w17 := Lib.hid (B1_w16.out.below hqw17)
        have T2_w17 := Lib.hid (T2_w16.out.below hqw17)
        have B2_w17 := Lib.hid (B2_w16.out.below hqw17)
        have None_w17 := Lib.hid (None_w16.out.below hqw17)
        have z0_w17 : w.heap.size < w17.heap.size := Nat.lt_of_lt_of_le z0_w16 hqw17.size
        have z1_w17 : w10.heap.size < w17.heap.size := Nat.lt_of_lt_of_le z1_w16 hqw17.size
        have z2_w17 : w12.heap.size < w17.heap.size := Nat.lt_of_lt_of_le z2_w16 hqw17.size
        have z3_w17 : w14.heap.size < w17.heap.size := Nat.lt_of_lt_of_le z3_w16 hqw17.size
        have B_w17 := bt B_w16 hqw17
        clear T0_w16 T_w16 T1_w16 B1_w16 T2_w16 B2_w16 None_w16 z0_w16 z1_w16 z2_w16 z3_w16 B_w16 hqw17
        simp only [Exit.then]
        clear o_B1_0 o_B1_1 o_B1_2
        have o_T0_0 := T0_w17.out.c (i := 0) rfl
        have o_T0_1 := T0_w17.out.c (i := 1) rfl
        have o_T0_2 := T0_w17.out.c (i := 2) rfl
        go_wp2_with fail
        clear o_T0_0 o_T0_1 o_T0_2
        go_at_call 13
        (with_reducible refine (r_right s ag T_w17.out hsm.out _ hr.out).mono ?_)
        rintro e w18 ⟨rfl, hb18⟩
        have T0_w18 := Lib.hid (T0_w17.out.below hb18)
        have T_w18 := Lib.hid (T_w17.out.below hb18)
        have T1_w18 := Lib.hid (T1_w17.out.below hb18)
        have B1_w18 := Lib.hid (B1_w17.out.below hb18)
        have T2_w18 := Lib.hid (T2_w17.out.below hb18)
        have B2_w18 := Lib.hid (B2_w17.out.below hb18)
        have None_w18 := Lib.hid (None_w17.out.below hb18)
        have z0_w18 : w.heap.size < w18.heap.size := Nat.lt_of_lt_of_le z0_w17 hb18.size
        have z1_w18 : w10.heap.size < w18.heap.size := Nat.lt_of_lt_of_le z1_w17 hb18.size
        have z2_w18 : w12.heap.size < w18.heap.size := Nat.lt_of_lt_of_le z2_w17 hb18.size
        have z3_w18 : w14.heap.size < w18.heap.size := Nat.lt_of_lt_of_le z3_w17 hb18.size
        have B_w18 := bt B_w17 hb18
        clear T0_w17 T_w17 T1_w17 B1_w17 T2_w17 B2_w17 None_w17 z0_w17 z1_w17 z2_w17 z3_w17 B_w17 hb18
        go_wp2_with fail
        go_at_call 18
        (with_reducible refine (hMac.out _).mono ?_)
        rintro e w' ⟨rfl, rfl⟩
        have o_B2_0 := B2_w18.out.c (i := 0) rfl
        have o_B2_1 := B2_w18.out.c (i := 1) rfl
        have o_B2_2 := B2_w18.out.c (i := 2) rfl
        have o_None_0 := None_w18.out.c (i := 0) rfl
        have o_None_1 := None_w18.out.c (i := 1) rfl
        have o_None_2 := None_w18.out.c (i := 2) rfl
        go_wp2_with fail
        clear o_B2_0 o_B2_1 o_B2_2 o_None_0 o_None_1 o_None_2
        go_at_call 16
        (with_reducible refine (r_same 0 0 T2_w18.out.tab (TabS.empty _) small_nil).mono ?_)
        rintro e w19 ⟨rfl, hb19⟩
        have T0_w19 := Lib.hid (T0_w18.out.below hb19)
        have T_w19 := Lib.hid (T_w18.out.below hb19)
        have T1_w19 := Lib.hid (T1_w18.out.below hb19)
        have B1_w19 := Lib.hid (B1_w18.out.below hb19)
        have T2_w19 := Lib.hid (T2_w18.out.below hb19)
        have B2_w19 := Lib.hid (B2_w18.out.below hb19)
        have None_w19 := Lib.hid (None_w18.out.below hb19)
        have z0_w19 : w.heap.size < w19.heap.size := Nat.lt_of_lt_of_le z0_w18 hb19.size
        have z1_w19 : w10.heap.size < w19.heap.size := Nat.lt_of_lt_of_le z1_w18 hb19.size
        have z2_w19 : w12.heap.size < w19.heap.size := Nat.lt_of_lt_of_le z2_w18 hb19.size
        have z3_w19 : w14.heap.size < w19.heap.size := Nat.lt_of_lt_of_le z3_w18 hb19.size
        have B_w19 := bt B_w18 hb19
        clear T0_w18 T_w18 T1_w18 B1_w18 T2_w18 B2_w18 None_w18 z0_w18 z1_w18 z2_w18 z3_w18 B_w18 hb19
        go_wp2_with fail
        go_ret
        exact ⟨rfl, B_w19⟩
      | true =>
        rw [hm] at hMac
        cases htm : timeB now with
        | false =>
          rw [htm] at hTime
          have hlo : Hid (learnOk bs s ag a port now = false) := Lib.hid (by unfold learnOk; rw [hr, hm, htm]; cases portB port <;> rfl)
          have hfo : Hid (findOk bs s ag a now = false) := Lib.hid (by unfold findOk; rw [hr, hm, htm]; rfl)
          replace hr := Lib.hid hr
          replace hm := Lib.hid hm
          replace htm := Lib.hid htm
          go_wp2_with fail
          go_at_call 9
          (with_reducible refine (new_yes hsz.out).mono ?_)
          rintro e w10 ⟨A1, n1, c1, rfl, T1, hb10⟩
          have T0_w10 := Lib.hid (T0_w9.out.below hb10)
          have T_w10 := Lib.hid (T_w9.out.below hb10)
          have T1_w10 := Lib.hid (T1)
          have z0_w10 : w.heap.size < w10.heap.size := Nat.lt_of_lt_of_le z0_w9 hb10.size
          have B_w10 := bt B_w9 hb10
          clear T0_w9 T_w9 z0_w9 B_w9 hb10
          clear T1
          have o_T0_0 := T0_w10.out.c (i := 0) rfl
          have o_T0_1 := T0_w10.out.c (i := 1) rfl
          have o_T0_2 := T0_w10.out.c (i := 2) rfl
          go_wp2_with fail
          clear o_T0_0 o_T0_1 o_T0_2
          obtain ⟨w11, hw11⟩ : ∃ W, W = w10.alloc (.cells #[.slice A1 n1 c1, .int .i64 sq, .int .i64 gq] 24) := ⟨_, rfl⟩
          have bw11 : Below w10.heap.size w10 w11 := by rw [hw11]; exact (Below.refl _ _).alloc (Nat.le_refl _) _
          have Xw11 : Bx w11 w10.heap.size 24 #[.slice A1 n1 c1, .int .i64 sq, .int .i64 gq] := by rw [hw11]; exact Bx.new _ _ _ rfl
          rw [← hw11]
          clear hw11
          have T0_w11 := Lib.hid (T0_w10.out.below bw11)
          have T_w11 := Lib.hid (T_w10.out.below bw11)
          have T1_w11 := Lib.hid (T1_w10.out.below bw11)
          have B1_w11 := Lib.hid (Xw11)
          have z0_w11 : w.heap.size < w11.heap.size := Nat.lt_of_lt_of_le z0_w10 bw11.size
          have B_w11 := bt B_w10 bw11
          clear T0_w10 T_w10 T1_w10 z0_w10 B_w10 bw11
          have z1_w11 : w10.heap.size < w11.heap.size := Xw11.lt
          clear Xw11
          go_at_call 10
          (with_reducible refine (learn_no T_w11.out hsm.out hlo.out).mono ?_)
          rintro e w12 ⟨A2, n2, c2, rfl, T2, hb12⟩
          have T0_w12 := Lib.hid (T0_w11.out.below hb12)
          have T_w12 := Lib.hid (T_w11.out.below hb12)
          have T1_w12 := Lib.hid (T1_w11.out.below hb12)
          have B1_w12 := Lib.hid (B1_w11.out.below hb12)
          have T2_w12 := Lib.hid (T2)
          have z0_w12 : w.heap.size < w12.heap.size := Nat.lt_of_lt_of_le z0_w11 hb12.size
          have z1_w12 : w10.heap.size < w12.heap.size := Nat.lt_of_lt_of_le z1_w11 hb12.size
          have B_w12 := bt B_w11 hb12
          clear T0_w11 T_w11 T1_w11 B1_w11 z0_w11 z1_w11 B_w11 hb12
          clear T2
          have o_T0_0 := T0_w12.out.c (i := 0) rfl
          have o_T0_1 := T0_w12.out.c (i := 1) rfl
          have o_T0_2 := T0_w12.out.c (i := 2) rfl
          go_wp2_with fail
          clear o_T0_0 o_T0_1 o_T0_2
          obtain ⟨w13, hw13⟩ : ∃ W, W = w12.alloc (.cells #[.slice A2 n2 c2, .int .i64 0, .int .i64 0] 24) := ⟨_, rfl⟩
          have bw13 : Below w12.heap.size w12 w13 := by rw [hw13]; exact (Below.refl _ _).alloc (Nat.le_refl _) _
          have Xw13 : Bx w13 w12.heap.size 24 #[.slice A2 n2 c2, .int .i64 0, .int .i64 0] := by rw [hw13]; exact Bx.new _ _ _ rfl
          rw [← hw13]
          clear hw13
          have T0_w13 := Lib.hid (T0_w12.out.below bw13)
          have T_w13 := Lib.hid (T_w12.out.below bw13)
          have T1_w13 := Lib.hid (T1_w12.out.below bw13)
          have B1_w13 := Lib.hid (B1_w12.out.below bw13)
          have T2_w13 := Lib.hid (T2_w12.out.below bw13)
          have B2_w13 := Lib.hid (Xw13)
          have z0_w13 : w.heap.size < w13.heap.size := Nat.lt_of_lt_of_le z0_w12 bw13.size
          have z1_w13 : w10.heap.size < w13.heap.size := Nat.lt_of_lt_of_le z1_w12 bw13.size
          have B_w13 := bt B_w12 bw13
          clear T0_w12 T_w12 T1_w12 B1_w12 T2_w12 z0_w12 z1_w12 B_w12 bw13
          have z2_w13 : w12.heap.size < w13.heap.size := Xw13.lt
          clear Xw13
          go_at_call 11
          (with_reducible refine (find_no T_w13.out hsm.out hfo.out).mono ?_)
          rintro e w14 ⟨rfl, hb14⟩
          have T0_w14 := Lib.hid (T0_w13.out.below hb14)
          have T_w14 := Lib.hid (T_w13.out.below hb14)
          have T1_w14 := Lib.hid (T1_w13.out.below hb14)
          have B1_w14 := Lib.hid (B1_w13.out.below hb14)
          have T2_w14 := Lib.hid (T2_w13.out.below hb14)
          have B2_w14 := Lib.hid (B2_w13.out.below hb14)
          have z0_w14 : w.heap.size < w14.heap.size := Nat.lt_of_lt_of_le z0_w13 hb14.size
          have z1_w14 : w10.heap.size < w14.heap.size := Nat.lt_of_lt_of_le z1_w13 hb14.size
          have z2_w14 : w12.heap.size < w14.heap.size := Nat.lt_of_lt_of_le z2_w13 hb14.size
          have B_w14 := bt B_w13 hb14
          clear T0_w13 T_w13 T1_w13 B1_w13 T2_w13 B2_w13 z0_w13 z1_w13 z2_w13 B_w13 hb14
          have o_T0_0 := T0_w14.out.c (i := 0) rfl
          have o_T0_1 := T0_w14.out.c (i := 1) rfl
          have o_T0_2 := T0_w14.out.c (i := 2) rfl
          go_wp2_with fail
          clear o_T0_0 o_T0_1 o_T0_2
          obtain ⟨w15, hw15⟩ : ∃ W, W = w14.alloc (.cells #[.slice none 0 0, .int .i64 0, .int .i64 0] 24) := ⟨_, rfl⟩
          have bw15 : Below w14.heap.size w14 w15 := by rw [hw15]; exact (Below.refl _ _).alloc (Nat.le_refl _) _
          have Xw15 : Bx w15 w14.heap.size 24 #[.slice none 0 0, .int .i64 0, .int .i64 0] := by rw [hw15]; exact Bx.new _ _ _ rfl
          rw [← hw15]
          clear hw15
          have T0_w15 := Lib.hid (T0_w14.out.below bw15)
          have T_w15 := Lib.hid (T_w14.out.below bw15)
          have T1_w15 := Lib.hid (T1_w14.out.below bw15)
          have B1_w15 := Lib.hid (B1_w14.out.below bw15)
          have T2_w15 := Lib.hid (T2_w14.out.below bw15)
          have B2_w15 := Lib.hid (B2_w14.out.below bw15)
          have None_w15 := Lib.hid (Xw15)
          have z0_w15 : w.heap.size < w15.heap.size := Nat.lt_of_lt_of_le z0_w14 bw15.size
          have z1_w15 : w10.heap.size < w15.heap.size := Nat.lt_of_lt_of_le z1_w14 bw15.size
          have z2_w15 : w12.heap.size < w15.heap.size := Nat.lt_of_lt_of_le z2_w14 bw15.size
          have B_w15 := bt B_w14 bw15
          clear T0_w14 T_w14 T1_w14 B1_w14 T2_w14 B2_w14 z0_w14 z1_w14 z2_w14 B_w14 bw15
          have z3_w15 : w14.heap.size < w15.heap.size := Xw15.lt
          clear Xw15
          have K_T0_0 := cell_regrown (T0_w15.out.c (i := 0) rfl)
          have K_T0_1 := cell_regrown (T0_w15.out.c (i := 1) rfl)
          have K_T0_2 := cell_regrown (T0_w15.out.c (i := 2) rfl)
          have cC0 := fun (d : Nat) (os : Array Obj) => Calls.regrown_of (fdRight s ag (T_w15.out.below (below_regrown w15 d os)) hsm.out _ hr.out)
          have cC1 := fun (d : Nat) (os : Array Obj) => Calls.regrown_of (r_right s ag (T_w15.out.below (below_regrown w15 d os)) hsm.out _ hr.out)
          have cC2 := fun (d : Nat) (os : Array Obj) => Calls.regrown_of (alive_any (Go.Sort.grow (redrawn w15 d) os))
          refine wp_region_quiet_below (by kernel_rfl) (by kernel_rfl) ?_
          repeat (first | go_big_quiet_step (first | with_reducible exact cC0 _ _ | with_reducible exact cC1 _ _ | with_reducible exact cC2 _ _) | quiet_step (first | with_reducible exact cC0 _ _ | with_reducible exact cC1 _ _ | with_reducible exact cC2 _ _))
          refine wpQuiet_nil ?_
          intro _ hw'
          obtain ⟨⟨dq, osq⟩, hw''⟩ := hw'
          subst hw''
          have hqw16 := below_regrown w15 dq osq
          clear K_T0_0 K_T0_1 K_T0_2 cC0 cC1 cC2
          generalize Go.Sort.grow (redrawn w15 dq) osq = w16 at *
          have T0_w16 := Lib.hid (T0_w15.out.below hqw16)
          have T_w16 := Lib.hid (T_w15.out.below hqw16)
          have T1_w16 := Lib.hid (T1_w15.out.below hqw16)
          have B1_w16 := Lib.hid (B1_w15.out.below hqw16)
          have T2_w16 := Lib.hid (T2_w15.out.below hqw16)
          have B2_w16 := Lib.hid (B2_w15.out.below hqw16)
          have None_w16 := Lib.hid (None_w15.out.below hqw16)
          have z0_w16 : w.heap.size < w16.heap.size := Nat.lt_of_lt_of_le z0_w15 hqw16.size
          have z1_w16 : w10.heap.size < w16.heap.size := Nat.lt_of_lt_of_le z1_w15 hqw16.size
          have z2_w16 : w12.heap.size < w16.heap.size := Nat.lt_of_lt_of_le z2_w15 hqw16.size
          have z3_w16 : w14.heap.size < w16.heap.size := Nat.lt_of_lt_of_le z3_w15 hqw16.size
          have B_w16 := bt B_w15 hqw16
          clear T0_w15 T_w15 T1_w15 B1_w15 T2_w15 B2_w15 None_w15 z0_w15 z1_w15 z2_w15 z3_w15 B_w15 hqw16
          go_wp2_with fail
          go_at_call 15
          (with_reducible refine (hSz.out _).mono ?_)
          rintro e w' ⟨rfl, rfl⟩
          go_wp2_with fail
          have o_B1_0 := B1_w16.out.c (i := 0) rfl
          have o_B1_1 := B1_w16.out.c (i := 1) rfl
          have o_B1_2 := B1_w16.out.c (i := 2) rfl
          refine wp_region_opsG (by kernel_rfl) (fun ix => match ix with | 0 => 69 | 1 => 70 | 2 => 71 | 3 => 72 | 4 => 73 | 5 => 74 | 6 => 75 | 7 => 76 | 8 => 77 | 9 => 78 | 10 => 79 | _ => 0) [(2, false)] (by kernel_rfl) (by kernel_rfl) (fun i v W => match i with | 0 => v = .int .i64 0 | 1 => v = .bool false | 2 => v = .bool false | 3 => v = tbv (.slice A1 n1 c1) sq gq | 4 => v = .int .i64 nq | 5 => v = .int .i64 sq | 6 => v = .int .i64 gq | 7 => ∃ A n c, v = tbv (.slice A n c) sq gq ∧ TabS W A n c (List.replicate nq.toNat []) | 8 => v = .bool true | 9 => v = .bool false | 10 => v = .bool false | _ => True) (fun i v W W' h hb => by
              match i with
              | 0 => exact h
              | 1 => exact h
              | 2 => exact h
              | 3 => exact h
              | 4 => exact h
              | 5 => exact h
              | 6 => exact h
              | 8 => exact h
              | 9 => exact h
              | 10 => exact h
              | 7 => (obtain ⟨A, n, c, h1, h2⟩ := h; exact ⟨A, n, c, h1, h2.below hb⟩)
              | n + 11 => exact trivial) (fun g hg v W h => by
              simp only [List.mem_singleton] at hg
              subst hg
              exact h) ?_ ?_
          refine ⟨?_, ?_, ?_, ?_, ?_, ?_, ?_, ?_, ?_, ?_, ?_, trivial⟩
          · as_aux_lemma =>
              intro a9 W2 K hb hdep hk hK
              replace hK : ∀ v w', (v = .int .i64 0) → Below W2.heap.size W2 w' → K (a9.put (some 69) v) w' := hK
              have d16 : a9.tmps.getD 16 undef = .int .i64 0 := hk 16 (by kernel_rfl)
              clear hdep hk
              go_simp
              exact hK _ _ rfl (Below.refl _ _)
          · as_aux_lemma =>
              intro a9 W2 K hb hdep hk hK
              replace hK : ∀ v w', (v = .bool false) → Below W2.heap.size W2 w' → K (a9.put (some 70) v) w' := hK
              have d69 : a9.tmps.getD 69 undef = .int .i64 0 := hdep ⟨0, .data⟩ (by simp) rfl
              clear hdep hk
              go_simp
              exact hK _ _ rfl (Below.refl _ _)
          · as_aux_lemma =>
              intro a9 W2 K hb hdep hk hK
              replace hK : ∀ v w', (v = .bool false) → Below W2.heap.size W2 w' → K (a9.put (some 71) v) w' := hK
              have d70 : a9.tmps.getD 70 undef = .bool false := hdep ⟨1, .data⟩ (by simp) rfl
              clear hdep hk
              go_simp
              exact hK _ _ rfl (Below.refl _ _)
          · as_aux_lemma =>
              intro a9 W2 K hb hdep hk hK
              replace hK : ∀ v w', (v = tbv (.slice A1 n1 c1) sq gq) → Below W2.heap.size W2 w' → K (a9.put (some 72) v) w' := hK
              have d15 : a9.tmps.getD 15 undef = .pointer (some ⟨w10.heap.size, 0, none⟩) := hk 15 (by kernel_rfl)
              have t0 := (hb.cell (p := ⟨w10.heap.size, 0, none⟩) z1_w16).trans o_B1_0
              have t1 := (hb.cell (p := ⟨w10.heap.size, 1, none⟩) z1_w16).trans o_B1_1
              have t2 := (hb.cell (p := ⟨w10.heap.size, 2, none⟩) z1_w16).trans o_B1_2
              clear hdep hk
              go_simp
              exact hK _ _ rfl (Below.refl _ _)
          · as_aux_lemma =>
              intro a9 W2 K hb hdep hk hK
              replace hK : ∀ v w', (v = .int .i64 nq) → Below W2.heap.size W2 w' → K (a9.put (some 73) v) w' := hK
              have d0 : a9.tmps.getD 0 undef = .int .i64 nq := hk 0 (by kernel_rfl)
              clear hdep hk
              go_simp
              exact hK _ _ rfl (Below.refl _ _)
          · as_aux_lemma =>
              intro a9 W2 K hb hdep hk hK
              replace hK : ∀ v w', (v = .int .i64 sq) → Below W2.heap.size W2 w' → K (a9.put (some 74) v) w' := hK
              have d1 : a9.tmps.getD 1 undef = .int .i64 sq := hk 1 (by kernel_rfl)
              clear hdep hk
              go_simp
              exact hK _ _ rfl (Below.refl _ _)
          · as_aux_lemma =>
              intro a9 W2 K hb hdep hk hK
              replace hK : ∀ v w', (v = .int .i64 gq) → Below W2.heap.size W2 w' → K (a9.put (some 75) v) w' := hK
              have d2 : a9.tmps.getD 2 undef = .int .i64 gq := hk 2 (by kernel_rfl)
              clear hdep hk
              go_simp
              exact hK _ _ rfl (Below.refl _ _)
          · as_aux_lemma =>
              intro a9 W2 K hb hdep hk hK
              replace hK : ∀ v w', (∃ A n c, v = tbv (.slice A n c) sq gq ∧ TabS w' A n c (List.replicate nq.toNat [])) → Below W2.heap.size W2 w' → K (a9.put (some 76) v) w' := hK
              have d73 : a9.tmps.getD 73 undef = .int .i64 nq := hdep ⟨4, .data⟩ (by simp) rfl
              have d74 : a9.tmps.getD 74 undef = .int .i64 sq := hdep ⟨5, .data⟩ (by simp) rfl
              have d75 : a9.tmps.getD 75 undef = .int .i64 gq := hdep ⟨6, .data⟩ (by simp) rfl
              clear hdep hk
              go_simp
              refine (r_new nq sq gq _ hnb.out).mono ?_
              rintro e w9 ⟨A8, n8, c8, rfl, r1, r2⟩
              exact hK _ _ ⟨A8, n8, c8, rfl, r1⟩ r2
          · as_aux_lemma =>
              intro a9 W2 K hb hdep hk hK
              replace hK : ∀ v w', (v = .bool true) → Below W2.heap.size W2 w' → K (a9.put (some 77) v) w' := hK
              have d72 : a9.tmps.getD 72 undef = tbv (.slice A1 n1 c1) sq gq := hdep ⟨3, .data⟩ (by simp) rfl
              obtain ⟨A8, n8, c8, d76, r1⟩ : ∃ A n c, a9.tmps.getD 76 undef = tbv (.slice A n c) sq gq ∧ TabS W2 A n c (List.replicate nq.toNat []) := hdep ⟨7, .data⟩ (by simp) rfl
              have hcall := Lib.hid (r_same sq gq (T1_w16.out.below hb).tab r1 hsmN.out)
              clear hdep hk
              have q72 : a9.tmps[72]?.getD undef = tbv (.slice A1 n1 c1) sq gq := by simpa [Array.getD_eq_getD_getElem?] using d72
              clear d72
              have q76 : a9.tmps[76]?.getD undef = tbv (.slice A8 n8 c8) sq gq := by simpa [Array.getD_eq_getD_getElem?] using d76
              clear d76
              go_simp
              refine hcall.out.mono ?_
              rintro e w9 ⟨rfl, r2⟩
              exact hK _ _ rfl r2
          · as_aux_lemma =>
              intro a9 W2 K hb hdep hk hK
              replace hK : ∀ v w', (v = .bool false) → Below W2.heap.size W2 w' → K (a9.put (some 78) v) w' := hK
              have d77 : a9.tmps.getD 77 undef = .bool true := hdep ⟨8, .data⟩ (by simp) rfl
              clear hdep hk
              go_simp
              exact hK _ _ rfl (Below.refl _ _)
          · as_aux_lemma =>
              intro a9 W2 K hb hdep hk hK
              replace hK : ∀ v w', (v = .bool false) → Below W2.heap.size W2 w' → K (a9.put (some 79) v) w' := hK
              have d71 : a9.tmps.getD 71 undef = .bool false := hdep ⟨2, .data⟩ (by simp) rfl
              have d78 : a9.tmps.getD 78 undef = .bool false := hdep ⟨9, .data⟩ (by simp) rfl
              clear hdep hk
              go_simp
              exact hK _ _ rfl (Below.refl _ _)
          intro af w17 hqw17 hsp hk hn hdf
          have hx10 : af.tmps.getD 79 undef = .bool false := hsp 10 (by decide)
          clear hsp
          have s0 : af.tmps.getD 0 undef = .int .i64 nq := hk 0 (by kernel_rfl)
          have s1 : af.tmps.getD 1 undef = .int .i64 sq := hk 1 (by kernel_rfl)
          have s2 : af.tmps.getD 2 undef = .int .i64 gq := hk 2 (by kernel_rfl)
          have s4 : af.tmps.getD 4 undef = .int .i64 a := hk 4 (by kernel_rfl)
          have s5 : af.tmps.getD 5 undef = .int .i64 port := hk 5 (by kernel_rfl)
          have s6 : af.tmps.getD 6 undef = .int .i64 now := hk 6 (by kernel_rfl)
          have s10 : af.tmps.getD 10 undef = .pointer (some ⟨w.heap.size, 0, none⟩) := hk 10 (by kernel_rfl)
          have s14 : af.tmps.getD 14 undef = .bool false := hk 14 (by kernel_rfl)
          have s15 : af.tmps.getD 15 undef = .pointer (some ⟨w10.heap.size, 0, none⟩) := hk 15 (by kernel_rfl)
          have s16 : af.tmps.getD 16 undef = .int .i64 0 := hk 16 (by kernel_rfl)
          have s17 : af.tmps.getD 17 undef = .pointer (some ⟨w12.heap.size, 0, none⟩) := hk 17 (by kernel_rfl)
          have s18 : af.tmps.getD 18 undef = .int .i64 1 := hk 18 (by kernel_rfl)
          have s19 : af.tmps.getD 19 undef = .int .i64 0 := hk 19 (by kernel_rfl)
          have s20 : af.tmps.getD 20 undef = .int .i64 1 := hk 20 (by kernel_rfl)
          have s21 : af.tmps.getD 21 undef = .pointer (some ⟨w14.heap.size, 0, none⟩) := hk 21 (by kernel_rfl)
          have s79 : af.tmps.getD 79 undef = .bool false := hx10
          clear hk hx10
          obtain ⟨tm, df⟩ := af
          have e := arr_out tm 139 hn
          replace e : tm = #[tm.getD 0 undef, tm.getD 1 undef, tm.getD 2 undef, tm.getD 3 undef, tm.getD 4 undef, tm.getD 5 undef, tm.getD 6 undef, tm.getD 7 undef, tm.getD 8 undef, tm.getD 9 undef, tm.getD 10 undef, tm.getD 11 undef, tm.getD 12 undef, tm.getD 13 undef, tm.getD 14 undef, tm.getD 15 undef, tm.getD 16 undef, tm.getD 17 undef, tm.getD 18 undef, tm.getD 19 undef, tm.getD 20 undef, tm.getD 21 undef, tm.getD 22 undef, tm.getD 23 undef, tm.getD 24 undef, tm.getD 25 undef, tm.getD 26 undef, tm.getD 27 undef, tm.getD 28 undef, tm.getD 29 undef, tm.getD 30 undef, tm.getD 31 undef, tm.getD 32 undef, tm.getD 33 undef, tm.getD 34 undef, tm.getD 35 undef, tm.getD 36 undef, tm.getD 37 undef, tm.getD 38 undef, tm.getD 39 undef, tm.getD 40 undef, tm.getD 41 undef, tm.getD 42 undef, tm.getD 43 undef, tm.getD 44 undef, tm.getD 45 undef, tm.getD 46 undef, tm.getD 47 undef, tm.getD 48 undef, tm.getD 49 undef, tm.getD 50 undef, tm.getD 51 undef, tm.getD 52 undef, tm.getD 53 undef, tm.getD 54 undef, tm.getD 55 undef, tm.getD 56 undef, tm.getD 57 undef, tm.getD 58 undef, tm.getD 59 undef, tm.getD 60 undef, tm.getD 61 undef, tm.getD 62 undef, tm.getD 63 undef, tm.getD 64 undef, tm.getD 65 undef, tm.getD 66 undef, tm.getD 67 undef, tm.getD 68 undef, tm.getD 69 undef, tm.getD 70 undef, tm.getD 71 undef, tm.getD 72 undef, tm.getD 73 undef, tm.getD 74 undef, tm.getD 75 undef, tm.getD 76 undef, tm.getD 77 undef, tm.getD 78 undef, tm.getD 79 undef, tm.getD 80 undef, tm.getD 81 undef, tm.getD 82 undef, tm.getD 83 undef, tm.getD 84 undef, tm.getD 85 undef, tm.getD 86 undef, tm.getD 87 undef, tm.getD 88 undef, tm.getD 89 undef, tm.getD 90 undef, tm.getD 91 undef, tm.getD 92 undef, tm.getD 93 undef, tm.getD 94 undef, tm.getD 95 undef, tm.getD 96 undef, tm.getD 97 undef, tm.getD 98 undef, tm.getD 99 undef, tm.getD 100 undef, tm.getD 101 undef, tm.getD 102 undef, tm.getD 103 undef, tm.getD 104 undef, tm.getD 105 undef, tm.getD 106 undef, tm.getD 107 undef, tm.getD 108 undef, tm.getD 109 undef, tm.getD 110 undef, tm.getD 111 undef, tm.getD 112 undef, tm.getD 113 undef, tm.getD 114 undef, tm.getD 115 undef, tm.getD 116 undef, tm.getD 117 undef, tm.getD 118 undef, tm.getD 119 undef, tm.getD 120 undef, tm.getD 121 undef, tm.getD 122 undef, tm.getD 123 undef, tm.getD 124 undef, tm.getD 125 undef, tm.getD 126 undef, tm.getD 127 undef, tm.getD 128 undef, tm.getD 129 undef, tm.getD 130 undef, tm.getD 131 undef, tm.getD 132 undef, tm.getD 133 undef, tm.getD 134 undef, tm.getD 135 undef, tm.getD 136 undef, tm.getD 137 undef, tm.getD 138 undef] := e
          simp only at s0 s1 s2 s4 s5 s6 s10 s14 s15 s16 s17 s18 s19 s20 s21 s79 hdf
          rw [s0, s1, s2, s4, s5, s6, s10, s14, s15, s16, s17, s18, s19, s20, s21, s79] at e
          subst hdf
          clear s0 s1 s2 s4 s5 s6 s10 s14 s15 s16 s17 s18 s19 s20 s21 s79 hn
          generalize tm.getD 3 undef = u3 at e
          generalize tm.getD 7 undef = u7 at e
          generalize tm.getD 8 undef = u8 at e
          generalize tm.getD 9 undef = u9 at e
          generalize tm.getD 11 undef = u11 at e
          generalize tm.getD 12 undef = u12 at e
          generalize tm.getD 13 undef = u13 at e
          generalize tm.getD 22 undef = u22 at e
          generalize tm.getD 23 undef = u23 at e
          generalize tm.getD 24 undef = u24 at e
          generalize tm.getD 25 undef = u25 at e
          generalize tm.getD 26 undef = u26 at e
          generalize tm.getD 27 undef = u27 at e
          generalize tm.getD 28 undef = u28 at e
          generalize tm.getD 29 undef = u29 at e
          generalize tm.getD 30 undef = u30 at e
          generalize tm.getD 31 undef = u31 at e
          generalize tm.getD 32 undef = u32 at e
          generalize tm.getD 33 undef = u33 at e
          generalize tm.getD 34 undef = u34 at e
          generalize tm.getD 35 undef = u35 at e
          generalize tm.getD 36 undef = u36 at e
          generalize tm.getD 37 undef = u37 at e
          generalize tm.getD 38 undef = u38 at e
          generalize tm.getD 39 undef = u39 at e
          generalize tm.getD 40 undef = u40 at e
          generalize tm.getD 41 undef = u41 at e
          generalize tm.getD 42 undef = u42 at e
          generalize tm.getD 43 undef = u43 at e
          generalize tm.getD 44 undef = u44 at e
          generalize tm.getD 45 undef = u45 at e
          generalize tm.getD 46 undef = u46 at e
          generalize tm.getD 47 undef = u47 at e
          generalize tm.getD 48 undef = u48 at e
          generalize tm.getD 49 undef = u49 at e
          generalize tm.getD 50 undef = u50 at e
          generalize tm.getD 51 undef = u51 at e
          generalize tm.getD 52 undef = u52 at e
          generalize tm.getD 53 undef = u53 at e
          generalize tm.getD 54 undef = u54 at e
          generalize tm.getD 55 undef = u55 at e
          generalize tm.getD 56 undef = u56 at e
          generalize tm.getD 57 undef = u57 at e
          generalize tm.getD 58 undef = u58 at e
          generalize tm.getD 59 undef = u59 at e
          generalize tm.getD 60 undef = u60 at e
          generalize tm.getD 61 undef = u61 at e
          generalize tm.getD 62 undef = u62 at e
          generalize tm.getD 63 undef = u63 at e
          generalize tm.getD 64 undef = u64 at e
          generalize tm.getD 65 undef = u65 at e
          generalize tm.getD 66 undef = u66 at e
          generalize tm.getD 67 undef = u67 at e
          generalize tm.getD 68 undef = u68 at e
          generalize tm.getD 69 undef = u69 at e
          generalize tm.getD 70 undef = u70 at e
          generalize tm.getD 71 undef = u71 at e
          generalize tm.getD 72 undef = u72 at e
          generalize tm.getD 73 undef = u73 at e
          generalize tm.getD 74 undef = u74 at e
          generalize tm.getD 75 undef = u75 at e
          generalize tm.getD 76 undef = u76 at e
          generalize tm.getD 77 undef = u77 at e
          generalize tm.getD 78 undef = u78 at e
          generalize tm.getD 80 undef = u80 at e
          generalize tm.getD 81 undef = u81 at e
          generalize tm.getD 82 undef = u82 at e
          generalize tm.getD 83 undef = u83 at e
          generalize tm.getD 84 undef = u84 at e
          generalize tm.getD 85 undef = u85 at e
          generalize tm.getD 86 undef = u86 at e
          generalize tm.getD 87 undef = u87 at e
          generalize tm.getD 88 undef = u88 at e
          generalize tm.getD 89 undef = u89 at e
          generalize tm.getD 90 undef = u90 at e
          generalize tm.getD 91 undef = u91 at e
          generalize tm.getD 92 undef = u92 at e
          generalize tm.getD 93 undef = u93 at e
          generalize tm.getD 94 undef = u94 at e
          generalize tm.getD 95 undef = u95 at e
          generalize tm.getD 96 undef = u96 at e
          generalize tm.getD 97 undef = u97 at e
          generalize tm.getD 98 undef = u98 at e
          generalize tm.getD 99 undef = u99 at e
          generalize tm.getD 100 undef = u100 at e
          generalize tm.getD 101 undef = u101 at e
          generalize tm.getD 102 undef = u102 at e
          generalize tm.getD 103 undef = u103 at e
          generalize tm.getD 104 undef = u104 at e
          generalize tm.getD 105 undef = u105 at e
          generalize tm.getD 106 undef = u106 at e
          generalize tm.getD 107 undef = u107 at e
          generalize tm.getD 108 undef = u108 at e
          generalize tm.getD 109 undef = u109 at e
          generalize tm.getD 110 undef = u110 at e
          generalize tm.getD 111 undef = u111 at e
          generalize tm.getD 112 undef = u112 at e
          generalize tm.getD 113 undef = u113 at e
          generalize tm.getD 114 undef = u114 at e
          generalize tm.getD 115 undef = u115 at e
          generalize tm.getD 116 undef = u116 at e
          generalize tm.getD 117 undef = u117 at e
          generalize tm.getD 118 undef = u118 at e
          generalize tm.getD 119 undef = u119 at e
          generalize tm.getD 120 undef = u120 at e
          generalize tm.getD 121 undef = u121 at e
          generalize tm.getD 122 undef = u122 at e
          generalize tm.getD 123 undef = u123 at e
          generalize tm.getD 124 undef = u124 at e
          generalize tm.getD 125 undef = u125 at e
          generalize tm.getD 126 undef = u126 at e
          generalize tm.getD 127 undef = u127 at e
          generalize tm.getD 128 undef = u128 at e
          generalize tm.getD 129 undef = u129 at e
          generalize tm.getD 130 undef = u130 at e
          generalize tm.getD 131 undef = u131 at e
          generalize tm.getD 132 undef = u132 at e
          generalize tm.getD 133 undef = u133 at e
          generalize tm.getD 134 undef = u134 at e
          generalize tm.getD 135 undef = u135 at e
          generalize tm.getD 136 undef = u136 at e
          generalize tm.getD 137 undef = u137 at e
          generalize tm.getD 138 undef = u138 at e
          subst e
          have T0_w17 := Lib.hid (T0_w16.out.below hqw17)
          have T_w17 := Lib.hid (T_w16.out.below hqw17)
          have T1_w17 := Lib.hid (T1_w16.out.below hqw17)
          have B1_w17 := Lib.hid (B1_w16.out.below hqw17)
          have T2_w17 := Lib.hid (T2_w16.out.below hqw17)
          have B2_w17 := Lib.hid (B2_w16.out.below hqw17)
          have None_w17 := Lib.hid (None_w16.out.below hqw17)
          have z0_w17 : w.heap.size < w17.heap.size := Nat.lt_of_lt_of_le z0_w16 hqw17.size
          have z1_w17 : w10.heap.size < w17.heap.size := Nat.lt_of_lt_of_le z1_w16 hqw17.size
          have z2_w17 : w12.heap.size < w17.heap.size := Nat.lt_of_lt_of_le z2_w16 hqw17.size
          have z3_w17 : w14.heap.size < w17.heap.size := Nat.lt_of_lt_of_le z3_w16 hqw17.size
          have B_w17 := bt B_w16 hqw17
          clear T0_w16 T_w16 T1_w16 B1_w16 T2_w16 B2_w16 None_w16 z0_w16 z1_w16 z2_w16 z3_w16 B_w16 hqw17
          simp only [Exit.then]
          clear o_B1_0 o_B1_1 o_B1_2
          have o_T0_0 := T0_w17.out.c (i := 0) rfl
          have o_T0_1 := T0_w17.out.c (i := 1) rfl
          have o_T0_2 := T0_w17.out.c (i := 2) rfl
          go_wp2_with fail
          clear o_T0_0 o_T0_1 o_T0_2
          go_at_call 13
          (with_reducible refine (r_right s ag T_w17.out hsm.out _ hr.out).mono ?_)
          rintro e w18 ⟨rfl, hb18⟩
          have T0_w18 := Lib.hid (T0_w17.out.below hb18)
          have T_w18 := Lib.hid (T_w17.out.below hb18)
          have T1_w18 := Lib.hid (T1_w17.out.below hb18)
          have B1_w18 := Lib.hid (B1_w17.out.below hb18)
          have T2_w18 := Lib.hid (T2_w17.out.below hb18)
          have B2_w18 := Lib.hid (B2_w17.out.below hb18)
          have None_w18 := Lib.hid (None_w17.out.below hb18)
          have z0_w18 : w.heap.size < w18.heap.size := Nat.lt_of_lt_of_le z0_w17 hb18.size
          have z1_w18 : w10.heap.size < w18.heap.size := Nat.lt_of_lt_of_le z1_w17 hb18.size
          have z2_w18 : w12.heap.size < w18.heap.size := Nat.lt_of_lt_of_le z2_w17 hb18.size
          have z3_w18 : w14.heap.size < w18.heap.size := Nat.lt_of_lt_of_le z3_w17 hb18.size
          have B_w18 := bt B_w17 hb18
          clear T0_w17 T_w17 T1_w17 B1_w17 T2_w17 B2_w17 None_w17 z0_w17 z1_w17 z2_w17 z3_w17 B_w17 hb18
          go_wp2_with fail
          go_at_call 18
          (with_reducible refine (hMac.out _).mono ?_)
          rintro e w' ⟨rfl, rfl⟩
          go_wp2_with fail
          go_at_call 19
          (with_reducible refine (hTime.out _).mono ?_)
          rintro e w' ⟨rfl, rfl⟩
          have o_B2_0 := B2_w18.out.c (i := 0) rfl
          have o_B2_1 := B2_w18.out.c (i := 1) rfl
          have o_B2_2 := B2_w18.out.c (i := 2) rfl
          have o_None_0 := None_w18.out.c (i := 0) rfl
          have o_None_1 := None_w18.out.c (i := 1) rfl
          have o_None_2 := None_w18.out.c (i := 2) rfl
          go_wp2_with fail
          clear o_B2_0 o_B2_1 o_B2_2 o_None_0 o_None_1 o_None_2
          go_at_call 16
          (with_reducible refine (r_same 0 0 T2_w18.out.tab (TabS.empty _) small_nil).mono ?_)
          rintro e w19 ⟨rfl, hb19⟩
          have T0_w19 := Lib.hid (T0_w18.out.below hb19)
          have T_w19 := Lib.hid (T_w18.out.below hb19)
          have T1_w19 := Lib.hid (T1_w18.out.below hb19)
          have B1_w19 := Lib.hid (B1_w18.out.below hb19)
          have T2_w19 := Lib.hid (T2_w18.out.below hb19)
          have B2_w19 := Lib.hid (B2_w18.out.below hb19)
          have None_w19 := Lib.hid (None_w18.out.below hb19)
          have z0_w19 : w.heap.size < w19.heap.size := Nat.lt_of_lt_of_le z0_w18 hb19.size
          have z1_w19 : w10.heap.size < w19.heap.size := Nat.lt_of_lt_of_le z1_w18 hb19.size
          have z2_w19 : w12.heap.size < w19.heap.size := Nat.lt_of_lt_of_le z2_w18 hb19.size
          have z3_w19 : w14.heap.size < w19.heap.size := Nat.lt_of_lt_of_le z3_w18 hb19.size
          have B_w19 := bt B_w18 hb19
          clear T0_w18 T_w18 T1_w18 B1_w18 T2_w18 B2_w18 None_w18 z0_w18 z1_w18 z2_w18 z3_w18 B_w18 hb19
          go_wp2_with fail
          go_ret
          exact ⟨rfl, B_w19⟩
        | true =>
          rw [htm] at hTime
          have hfo : Hid (findOk bs s ag a now = true) := Lib.hid (by unfold findOk; rw [hr, hm, htm]; rfl)
          obtain ⟨p, hp⟩ : ∃ p, findI bs ag a now = p := ⟨_, rfl⟩
          have hfw : Hid (findW (entO bs a) ag now = p) := Lib.hid (by rw [findW_eq hr htm, hp])
          have hpp : (p == p) = true := by simp
          have hpn : (p != p) = false := by simp
          replace hp := Lib.hid hp
          cases hpo : portB port with
          | false =>
            rw [hpo] at hPort
            have hlo : Hid (learnOk bs s ag a port now = false) := Lib.hid (by unfold learnOk; rw [hr, hm, hpo]; rfl)
            replace hr := Lib.hid hr
            replace hm := Lib.hid hm
            replace htm := Lib.hid htm
            replace hpo := Lib.hid hpo
            go_wp2_with fail
            go_at_call 9
            (with_reducible refine (new_yes hsz.out).mono ?_)
            rintro e w10 ⟨A1, n1, c1, rfl, T1, hb10⟩
            have T0_w10 := Lib.hid (T0_w9.out.below hb10)
            have T_w10 := Lib.hid (T_w9.out.below hb10)
            have T1_w10 := Lib.hid (T1)
            have z0_w10 : w.heap.size < w10.heap.size := Nat.lt_of_lt_of_le z0_w9 hb10.size
            have B_w10 := bt B_w9 hb10
            clear T0_w9 T_w9 z0_w9 B_w9 hb10
            clear T1
            have o_T0_0 := T0_w10.out.c (i := 0) rfl
            have o_T0_1 := T0_w10.out.c (i := 1) rfl
            have o_T0_2 := T0_w10.out.c (i := 2) rfl
            go_wp2_with fail
            clear o_T0_0 o_T0_1 o_T0_2
            obtain ⟨w11, hw11⟩ : ∃ W, W = w10.alloc (.cells #[.slice A1 n1 c1, .int .i64 sq, .int .i64 gq] 24) := ⟨_, rfl⟩
            have bw11 : Below w10.heap.size w10 w11 := by rw [hw11]; exact (Below.refl _ _).alloc (Nat.le_refl _) _
            have Xw11 : Bx w11 w10.heap.size 24 #[.slice A1 n1 c1, .int .i64 sq, .int .i64 gq] := by rw [hw11]; exact Bx.new _ _ _ rfl
            rw [← hw11]
            clear hw11
            have T0_w11 := Lib.hid (T0_w10.out.below bw11)
            have T_w11 := Lib.hid (T_w10.out.below bw11)
            have T1_w11 := Lib.hid (T1_w10.out.below bw11)
            have B1_w11 := Lib.hid (Xw11)
            have z0_w11 : w.heap.size < w11.heap.size := Nat.lt_of_lt_of_le z0_w10 bw11.size
            have B_w11 := bt B_w10 bw11
            clear T0_w10 T_w10 T1_w10 z0_w10 B_w10 bw11
            have z1_w11 : w10.heap.size < w11.heap.size := Xw11.lt
            clear Xw11
            go_at_call 10
            (with_reducible refine (learn_no T_w11.out hsm.out hlo.out).mono ?_)
            rintro e w12 ⟨A2, n2, c2, rfl, T2, hb12⟩
            have T0_w12 := Lib.hid (T0_w11.out.below hb12)
            have T_w12 := Lib.hid (T_w11.out.below hb12)
            have T1_w12 := Lib.hid (T1_w11.out.below hb12)
            have B1_w12 := Lib.hid (B1_w11.out.below hb12)
            have T2_w12 := Lib.hid (T2)
            have z0_w12 : w.heap.size < w12.heap.size := Nat.lt_of_lt_of_le z0_w11 hb12.size
            have z1_w12 : w10.heap.size < w12.heap.size := Nat.lt_of_lt_of_le z1_w11 hb12.size
            have B_w12 := bt B_w11 hb12
            clear T0_w11 T_w11 T1_w11 B1_w11 z0_w11 z1_w11 B_w11 hb12
            clear T2
            have o_T0_0 := T0_w12.out.c (i := 0) rfl
            have o_T0_1 := T0_w12.out.c (i := 1) rfl
            have o_T0_2 := T0_w12.out.c (i := 2) rfl
            go_wp2_with fail
            clear o_T0_0 o_T0_1 o_T0_2
            obtain ⟨w13, hw13⟩ : ∃ W, W = w12.alloc (.cells #[.slice A2 n2 c2, .int .i64 0, .int .i64 0] 24) := ⟨_, rfl⟩
            have bw13 : Below w12.heap.size w12 w13 := by rw [hw13]; exact (Below.refl _ _).alloc (Nat.le_refl _) _
            have Xw13 : Bx w13 w12.heap.size 24 #[.slice A2 n2 c2, .int .i64 0, .int .i64 0] := by rw [hw13]; exact Bx.new _ _ _ rfl
            rw [← hw13]
            clear hw13
            have T0_w13 := Lib.hid (T0_w12.out.below bw13)
            have T_w13 := Lib.hid (T_w12.out.below bw13)
            have T1_w13 := Lib.hid (T1_w12.out.below bw13)
            have B1_w13 := Lib.hid (B1_w12.out.below bw13)
            have T2_w13 := Lib.hid (T2_w12.out.below bw13)
            have B2_w13 := Lib.hid (Xw13)
            have z0_w13 : w.heap.size < w13.heap.size := Nat.lt_of_lt_of_le z0_w12 bw13.size
            have z1_w13 : w10.heap.size < w13.heap.size := Nat.lt_of_lt_of_le z1_w12 bw13.size
            have B_w13 := bt B_w12 bw13
            clear T0_w12 T_w12 T1_w12 B1_w12 T2_w12 z0_w12 z1_w12 B_w12 bw13
            have z2_w13 : w12.heap.size < w13.heap.size := Xw13.lt
            clear Xw13
            go_at_call 11
            (with_reducible refine (find_yes T_w13.out hfo.out hp.out).mono ?_)
            rintro e w14 ⟨rfl, hb14⟩
            have T0_w14 := Lib.hid (T0_w13.out.below hb14)
            have T_w14 := Lib.hid (T_w13.out.below hb14)
            have T1_w14 := Lib.hid (T1_w13.out.below hb14)
            have B1_w14 := Lib.hid (B1_w13.out.below hb14)
            have T2_w14 := Lib.hid (T2_w13.out.below hb14)
            have B2_w14 := Lib.hid (B2_w13.out.below hb14)
            have z0_w14 : w.heap.size < w14.heap.size := Nat.lt_of_lt_of_le z0_w13 hb14.size
            have z1_w14 : w10.heap.size < w14.heap.size := Nat.lt_of_lt_of_le z1_w13 hb14.size
            have z2_w14 : w12.heap.size < w14.heap.size := Nat.lt_of_lt_of_le z2_w13 hb14.size
            have B_w14 := bt B_w13 hb14
            clear T0_w13 T_w13 T1_w13 B1_w13 T2_w13 B2_w13 z0_w13 z1_w13 z2_w13 B_w13 hb14
            have o_T0_0 := T0_w14.out.c (i := 0) rfl
            have o_T0_1 := T0_w14.out.c (i := 1) rfl
            have o_T0_2 := T0_w14.out.c (i := 2) rfl
            go_wp2_with fail
            clear o_T0_0 o_T0_1 o_T0_2
            obtain ⟨w15, hw15⟩ : ∃ W, W = w14.alloc (.cells #[.slice none 0 0, .int .i64 0, .int .i64 0] 24) := ⟨_, rfl⟩
            have bw15 : Below w14.heap.size w14 w15 := by rw [hw15]; exact (Below.refl _ _).alloc (Nat.le_refl _) _
            have Xw15 : Bx w15 w14.heap.size 24 #[.slice none 0 0, .int .i64 0, .int .i64 0] := by rw [hw15]; exact Bx.new _ _ _ rfl
            rw [← hw15]
            clear hw15
            have T0_w15 := Lib.hid (T0_w14.out.below bw15)
            have T_w15 := Lib.hid (T_w14.out.below bw15)
            have T1_w15 := Lib.hid (T1_w14.out.below bw15)
            have B1_w15 := Lib.hid (B1_w14.out.below bw15)
            have T2_w15 := Lib.hid (T2_w14.out.below bw15)
            have B2_w15 := Lib.hid (B2_w14.out.below bw15)
            have None_w15 := Lib.hid (Xw15)
            have z0_w15 : w.heap.size < w15.heap.size := Nat.lt_of_lt_of_le z0_w14 bw15.size
            have z1_w15 : w10.heap.size < w15.heap.size := Nat.lt_of_lt_of_le z1_w14 bw15.size
            have z2_w15 : w12.heap.size < w15.heap.size := Nat.lt_of_lt_of_le z2_w14 bw15.size
            have B_w15 := bt B_w14 bw15
            clear T0_w14 T_w14 T1_w14 B1_w14 T2_w14 B2_w14 z0_w14 z1_w14 z2_w14 B_w14 bw15
            have z3_w15 : w14.heap.size < w15.heap.size := Xw15.lt
            clear Xw15
            have K_T0_0 := cell_regrown (T0_w15.out.c (i := 0) rfl)
            have K_T0_1 := cell_regrown (T0_w15.out.c (i := 1) rfl)
            have K_T0_2 := cell_regrown (T0_w15.out.c (i := 2) rfl)
            have cC0 := fun (d : Nat) (os : Array Obj) => Calls.regrown_of (fdRight s ag (T_w15.out.below (below_regrown w15 d os)) hsm.out _ hr.out)
            have cC1 := fun (d : Nat) (os : Array Obj) => Calls.regrown_of (r_right s ag (T_w15.out.below (below_regrown w15 d os)) hsm.out _ hr.out)
            have cC2 := fun (d : Nat) (os : Array Obj) => Calls.regrown_of (alive_any (Go.Sort.grow (redrawn w15 d) os))
            refine wp_region_quiet_below (by kernel_rfl) (by kernel_rfl) ?_
            repeat (first | go_big_quiet_step (first | with_reducible exact cC0 _ _ | with_reducible exact cC1 _ _ | with_reducible exact cC2 _ _) | quiet_step (first | with_reducible exact cC0 _ _ | with_reducible exact cC1 _ _ | with_reducible exact cC2 _ _))
            refine wpQuiet_nil ?_
            intro _ hw'
            obtain ⟨⟨dq, osq⟩, hw''⟩ := hw'
            subst hw''
            have hqw16 := below_regrown w15 dq osq
            clear K_T0_0 K_T0_1 K_T0_2 cC0 cC1 cC2
            generalize Go.Sort.grow (redrawn w15 dq) osq = w16 at *
            have T0_w16 := Lib.hid (T0_w15.out.below hqw16)
            have T_w16 := Lib.hid (T_w15.out.below hqw16)
            have T1_w16 := Lib.hid (T1_w15.out.below hqw16)
            have B1_w16 := Lib.hid (B1_w15.out.below hqw16)
            have T2_w16 := Lib.hid (T2_w15.out.below hqw16)
            have B2_w16 := Lib.hid (B2_w15.out.below hqw16)
            have None_w16 := Lib.hid (None_w15.out.below hqw16)
            have z0_w16 : w.heap.size < w16.heap.size := Nat.lt_of_lt_of_le z0_w15 hqw16.size
            have z1_w16 : w10.heap.size < w16.heap.size := Nat.lt_of_lt_of_le z1_w15 hqw16.size
            have z2_w16 : w12.heap.size < w16.heap.size := Nat.lt_of_lt_of_le z2_w15 hqw16.size
            have z3_w16 : w14.heap.size < w16.heap.size := Nat.lt_of_lt_of_le z3_w15 hqw16.size
            have B_w16 := bt B_w15 hqw16
            clear T0_w15 T_w15 T1_w15 B1_w15 T2_w15 B2_w15 None_w15 z0_w15 z1_w15 z2_w15 z3_w15 B_w15 hqw16
            go_wp2_with fail
            go_at_call 15
            (with_reducible refine (hSz.out _).mono ?_)
            rintro e w' ⟨rfl, rfl⟩
            go_wp2_with fail
            have o_B1_0 := B1_w16.out.c (i := 0) rfl
            have o_B1_1 := B1_w16.out.c (i := 1) rfl
            have o_B1_2 := B1_w16.out.c (i := 2) rfl
            refine wp_region_opsG (by kernel_rfl) (fun ix => match ix with | 0 => 69 | 1 => 70 | 2 => 71 | 3 => 72 | 4 => 73 | 5 => 74 | 6 => 75 | 7 => 76 | 8 => 77 | 9 => 78 | 10 => 79 | _ => 0) [(2, false)] (by kernel_rfl) (by kernel_rfl) (fun i v W => match i with | 0 => v = .int .i64 0 | 1 => v = .bool false | 2 => v = .bool false | 3 => v = tbv (.slice A1 n1 c1) sq gq | 4 => v = .int .i64 nq | 5 => v = .int .i64 sq | 6 => v = .int .i64 gq | 7 => ∃ A n c, v = tbv (.slice A n c) sq gq ∧ TabS W A n c (List.replicate nq.toNat []) | 8 => v = .bool true | 9 => v = .bool false | 10 => v = .bool false | _ => True) (fun i v W W' h hb => by
                match i with
                | 0 => exact h
                | 1 => exact h
                | 2 => exact h
                | 3 => exact h
                | 4 => exact h
                | 5 => exact h
                | 6 => exact h
                | 8 => exact h
                | 9 => exact h
                | 10 => exact h
                | 7 => (obtain ⟨A, n, c, h1, h2⟩ := h; exact ⟨A, n, c, h1, h2.below hb⟩)
                | n + 11 => exact trivial) (fun g hg v W h => by
                simp only [List.mem_singleton] at hg
                subst hg
                exact h) ?_ ?_
            refine ⟨?_, ?_, ?_, ?_, ?_, ?_, ?_, ?_, ?_, ?_, ?_, trivial⟩
            · as_aux_lemma =>
                intro a9 W2 K hb hdep hk hK
                replace hK : ∀ v w', (v = .int .i64 0) → Below W2.heap.size W2 w' → K (a9.put (some 69) v) w' := hK
                have d16 : a9.tmps.getD 16 undef = .int .i64 0 := hk 16 (by kernel_rfl)
                clear hdep hk
                go_simp
                exact hK _ _ rfl (Below.refl _ _)
            · as_aux_lemma =>
                intro a9 W2 K hb hdep hk hK
                replace hK : ∀ v w', (v = .bool false) → Below W2.heap.size W2 w' → K (a9.put (some 70) v) w' := hK
                have d69 : a9.tmps.getD 69 undef = .int .i64 0 := hdep ⟨0, .data⟩ (by simp) rfl
                clear hdep hk
                go_simp
                exact hK _ _ rfl (Below.refl _ _)
            · as_aux_lemma =>
                intro a9 W2 K hb hdep hk hK
                replace hK : ∀ v w', (v = .bool false) → Below W2.heap.size W2 w' → K (a9.put (some 71) v) w' := hK
                have d70 : a9.tmps.getD 70 undef = .bool false := hdep ⟨1, .data⟩ (by simp) rfl
                clear hdep hk
                go_simp
                exact hK _ _ rfl (Below.refl _ _)
            · as_aux_lemma =>
                intro a9 W2 K hb hdep hk hK
                replace hK : ∀ v w', (v = tbv (.slice A1 n1 c1) sq gq) → Below W2.heap.size W2 w' → K (a9.put (some 72) v) w' := hK
                have d15 : a9.tmps.getD 15 undef = .pointer (some ⟨w10.heap.size, 0, none⟩) := hk 15 (by kernel_rfl)
                have t0 := (hb.cell (p := ⟨w10.heap.size, 0, none⟩) z1_w16).trans o_B1_0
                have t1 := (hb.cell (p := ⟨w10.heap.size, 1, none⟩) z1_w16).trans o_B1_1
                have t2 := (hb.cell (p := ⟨w10.heap.size, 2, none⟩) z1_w16).trans o_B1_2
                clear hdep hk
                go_simp
                exact hK _ _ rfl (Below.refl _ _)
            · as_aux_lemma =>
                intro a9 W2 K hb hdep hk hK
                replace hK : ∀ v w', (v = .int .i64 nq) → Below W2.heap.size W2 w' → K (a9.put (some 73) v) w' := hK
                have d0 : a9.tmps.getD 0 undef = .int .i64 nq := hk 0 (by kernel_rfl)
                clear hdep hk
                go_simp
                exact hK _ _ rfl (Below.refl _ _)
            · as_aux_lemma =>
                intro a9 W2 K hb hdep hk hK
                replace hK : ∀ v w', (v = .int .i64 sq) → Below W2.heap.size W2 w' → K (a9.put (some 74) v) w' := hK
                have d1 : a9.tmps.getD 1 undef = .int .i64 sq := hk 1 (by kernel_rfl)
                clear hdep hk
                go_simp
                exact hK _ _ rfl (Below.refl _ _)
            · as_aux_lemma =>
                intro a9 W2 K hb hdep hk hK
                replace hK : ∀ v w', (v = .int .i64 gq) → Below W2.heap.size W2 w' → K (a9.put (some 75) v) w' := hK
                have d2 : a9.tmps.getD 2 undef = .int .i64 gq := hk 2 (by kernel_rfl)
                clear hdep hk
                go_simp
                exact hK _ _ rfl (Below.refl _ _)
            · as_aux_lemma =>
                intro a9 W2 K hb hdep hk hK
                replace hK : ∀ v w', (∃ A n c, v = tbv (.slice A n c) sq gq ∧ TabS w' A n c (List.replicate nq.toNat [])) → Below W2.heap.size W2 w' → K (a9.put (some 76) v) w' := hK
                have d73 : a9.tmps.getD 73 undef = .int .i64 nq := hdep ⟨4, .data⟩ (by simp) rfl
                have d74 : a9.tmps.getD 74 undef = .int .i64 sq := hdep ⟨5, .data⟩ (by simp) rfl
                have d75 : a9.tmps.getD 75 undef = .int .i64 gq := hdep ⟨6, .data⟩ (by simp) rfl
                clear hdep hk
                go_simp
                refine (r_new nq sq gq _ hnb.out).mono ?_
                rintro e w9 ⟨A8, n8, c8, rfl, r1, r2⟩
                exact hK _ _ ⟨A8, n8, c8, rfl, r1⟩ r2
            · as_aux_lemma =>
                intro a9 W2 K hb hdep hk hK
                replace hK : ∀ v w', (v = .bool true) → Below W2.heap.size W2 w' → K (a9.put (some 77) v) w' := hK
                have d72 : a9.tmps.getD 72 undef = tbv (.slice A1 n1 c1) sq gq := hdep ⟨3, .data⟩ (by simp) rfl
                obtain ⟨A8, n8, c8, d76, r1⟩ : ∃ A n c, a9.tmps.getD 76 undef = tbv (.slice A n c) sq gq ∧ TabS W2 A n c (List.replicate nq.toNat []) := hdep ⟨7, .data⟩ (by simp) rfl
                have hcall := Lib.hid (r_same sq gq (T1_w16.out.below hb).tab r1 hsmN.out)
                clear hdep hk
                have q72 : a9.tmps[72]?.getD undef = tbv (.slice A1 n1 c1) sq gq := by simpa [Array.getD_eq_getD_getElem?] using d72
                clear d72
                have q76 : a9.tmps[76]?.getD undef = tbv (.slice A8 n8 c8) sq gq := by simpa [Array.getD_eq_getD_getElem?] using d76
                clear d76
                go_simp
                refine hcall.out.mono ?_
                rintro e w9 ⟨rfl, r2⟩
                exact hK _ _ rfl r2
            · as_aux_lemma =>
                intro a9 W2 K hb hdep hk hK
                replace hK : ∀ v w', (v = .bool false) → Below W2.heap.size W2 w' → K (a9.put (some 78) v) w' := hK
                have d77 : a9.tmps.getD 77 undef = .bool true := hdep ⟨8, .data⟩ (by simp) rfl
                clear hdep hk
                go_simp
                exact hK _ _ rfl (Below.refl _ _)
            · as_aux_lemma =>
                intro a9 W2 K hb hdep hk hK
                replace hK : ∀ v w', (v = .bool false) → Below W2.heap.size W2 w' → K (a9.put (some 79) v) w' := hK
                have d71 : a9.tmps.getD 71 undef = .bool false := hdep ⟨2, .data⟩ (by simp) rfl
                have d78 : a9.tmps.getD 78 undef = .bool false := hdep ⟨9, .data⟩ (by simp) rfl
                clear hdep hk
                go_simp
                exact hK _ _ rfl (Below.refl _ _)
            intro af w17 hqw17 hsp hk hn hdf
            have hx10 : af.tmps.getD 79 undef = .bool false := hsp 10 (by decide)
            clear hsp
            have s0 : af.tmps.getD 0 undef = .int .i64 nq := hk 0 (by kernel_rfl)
            have s1 : af.tmps.getD 1 undef = .int .i64 sq := hk 1 (by kernel_rfl)
            have s2 : af.tmps.getD 2 undef = .int .i64 gq := hk 2 (by kernel_rfl)
            have s4 : af.tmps.getD 4 undef = .int .i64 a := hk 4 (by kernel_rfl)
            have s5 : af.tmps.getD 5 undef = .int .i64 port := hk 5 (by kernel_rfl)
            have s6 : af.tmps.getD 6 undef = .int .i64 now := hk 6 (by kernel_rfl)
            have s10 : af.tmps.getD 10 undef = .pointer (some ⟨w.heap.size, 0, none⟩) := hk 10 (by kernel_rfl)
            have s14 : af.tmps.getD 14 undef = .bool false := hk 14 (by kernel_rfl)
            have s15 : af.tmps.getD 15 undef = .pointer (some ⟨w10.heap.size, 0, none⟩) := hk 15 (by kernel_rfl)
            have s16 : af.tmps.getD 16 undef = .int .i64 0 := hk 16 (by kernel_rfl)
            have s17 : af.tmps.getD 17 undef = .pointer (some ⟨w12.heap.size, 0, none⟩) := hk 17 (by kernel_rfl)
            have s18 : af.tmps.getD 18 undef = .int .i64 1 := hk 18 (by kernel_rfl)
            have s19 : af.tmps.getD 19 undef = .int .i64 p := hk 19 (by kernel_rfl)
            have s20 : af.tmps.getD 20 undef = .int .i64 0 := hk 20 (by kernel_rfl)
            have s21 : af.tmps.getD 21 undef = .pointer (some ⟨w14.heap.size, 0, none⟩) := hk 21 (by kernel_rfl)
            have s79 : af.tmps.getD 79 undef = .bool false := hx10
            clear hk hx10
            obtain ⟨tm, df⟩ := af
            have e := arr_out tm 139 hn
            replace e : tm = #[tm.getD 0 undef, tm.getD 1 undef, tm.getD 2 undef, tm.getD 3 undef, tm.getD 4 undef, tm.getD 5 undef, tm.getD 6 undef, tm.getD 7 undef, tm.getD 8 undef, tm.getD 9 undef, tm.getD 10 undef, tm.getD 11 undef, tm.getD 12 undef, tm.getD 13 undef, tm.getD 14 undef, tm.getD 15 undef, tm.getD 16 undef, tm.getD 17 undef, tm.getD 18 undef, tm.getD 19 undef, tm.getD 20 undef, tm.getD 21 undef, tm.getD 22 undef, tm.getD 23 undef, tm.getD 24 undef, tm.getD 25 undef, tm.getD 26 undef, tm.getD 27 undef, tm.getD 28 undef, tm.getD 29 undef, tm.getD 30 undef, tm.getD 31 undef, tm.getD 32 undef, tm.getD 33 undef, tm.getD 34 undef, tm.getD 35 undef, tm.getD 36 undef, tm.getD 37 undef, tm.getD 38 undef, tm.getD 39 undef, tm.getD 40 undef, tm.getD 41 undef, tm.getD 42 undef, tm.getD 43 undef, tm.getD 44 undef, tm.getD 45 undef, tm.getD 46 undef, tm.getD 47 undef, tm.getD 48 undef, tm.getD 49 undef, tm.getD 50 undef, tm.getD 51 undef, tm.getD 52 undef, tm.getD 53 undef, tm.getD 54 undef, tm.getD 55 undef, tm.getD 56 undef, tm.getD 57 undef, tm.getD 58 undef, tm.getD 59 undef, tm.getD 60 undef, tm.getD 61 undef, tm.getD 62 undef, tm.getD 63 undef, tm.getD 64 undef, tm.getD 65 undef, tm.getD 66 undef, tm.getD 67 undef, tm.getD 68 undef, tm.getD 69 undef, tm.getD 70 undef, tm.getD 71 undef, tm.getD 72 undef, tm.getD 73 undef, tm.getD 74 undef, tm.getD 75 undef, tm.getD 76 undef, tm.getD 77 undef, tm.getD 78 undef, tm.getD 79 undef, tm.getD 80 undef, tm.getD 81 undef, tm.getD 82 undef, tm.getD 83 undef, tm.getD 84 undef, tm.getD 85 undef, tm.getD 86 undef, tm.getD 87 undef, tm.getD 88 undef, tm.getD 89 undef, tm.getD 90 undef, tm.getD 91 undef, tm.getD 92 undef, tm.getD 93 undef, tm.getD 94 undef, tm.getD 95 undef, tm.getD 96 undef, tm.getD 97 undef, tm.getD 98 undef, tm.getD 99 undef, tm.getD 100 undef, tm.getD 101 undef, tm.getD 102 undef, tm.getD 103 undef, tm.getD 104 undef, tm.getD 105 undef, tm.getD 106 undef, tm.getD 107 undef, tm.getD 108 undef, tm.getD 109 undef, tm.getD 110 undef, tm.getD 111 undef, tm.getD 112 undef, tm.getD 113 undef, tm.getD 114 undef, tm.getD 115 undef, tm.getD 116 undef, tm.getD 117 undef, tm.getD 118 undef, tm.getD 119 undef, tm.getD 120 undef, tm.getD 121 undef, tm.getD 122 undef, tm.getD 123 undef, tm.getD 124 undef, tm.getD 125 undef, tm.getD 126 undef, tm.getD 127 undef, tm.getD 128 undef, tm.getD 129 undef, tm.getD 130 undef, tm.getD 131 undef, tm.getD 132 undef, tm.getD 133 undef, tm.getD 134 undef, tm.getD 135 undef, tm.getD 136 undef, tm.getD 137 undef, tm.getD 138 undef] := e
            simp only at s0 s1 s2 s4 s5 s6 s10 s14 s15 s16 s17 s18 s19 s20 s21 s79 hdf
            rw [s0, s1, s2, s4, s5, s6, s10, s14, s15, s16, s17, s18, s19, s20, s21, s79] at e
            subst hdf
            clear s0 s1 s2 s4 s5 s6 s10 s14 s15 s16 s17 s18 s19 s20 s21 s79 hn
            generalize tm.getD 3 undef = u3 at e
            generalize tm.getD 7 undef = u7 at e
            generalize tm.getD 8 undef = u8 at e
            generalize tm.getD 9 undef = u9 at e
            generalize tm.getD 11 undef = u11 at e
            generalize tm.getD 12 undef = u12 at e
            generalize tm.getD 13 undef = u13 at e
            generalize tm.getD 22 undef = u22 at e
            generalize tm.getD 23 undef = u23 at e
            generalize tm.getD 24 undef = u24 at e
            generalize tm.getD 25 undef = u25 at e
            generalize tm.getD 26 undef = u26 at e
            generalize tm.getD 27 undef = u27 at e
            generalize tm.getD 28 undef = u28 at e
            generalize tm.getD 29 undef = u29 at e
            generalize tm.getD 30 undef = u30 at e
            generalize tm.getD 31 undef = u31 at e
            generalize tm.getD 32 undef = u32 at e
            generalize tm.getD 33 undef = u33 at e
            generalize tm.getD 34 undef = u34 at e
            generalize tm.getD 35 undef = u35 at e
            generalize tm.getD 36 undef = u36 at e
            generalize tm.getD 37 undef = u37 at e
            generalize tm.getD 38 undef = u38 at e
            generalize tm.getD 39 undef = u39 at e
            generalize tm.getD 40 undef = u40 at e
            generalize tm.getD 41 undef = u41 at e
            generalize tm.getD 42 undef = u42 at e
            generalize tm.getD 43 undef = u43 at e
            generalize tm.getD 44 undef = u44 at e
            generalize tm.getD 45 undef = u45 at e
            generalize tm.getD 46 undef = u46 at e
            generalize tm.getD 47 undef = u47 at e
            generalize tm.getD 48 undef = u48 at e
            generalize tm.getD 49 undef = u49 at e
            generalize tm.getD 50 undef = u50 at e
            generalize tm.getD 51 undef = u51 at e
            generalize tm.getD 52 undef = u52 at e
            generalize tm.getD 53 undef = u53 at e
            generalize tm.getD 54 undef = u54 at e
            generalize tm.getD 55 undef = u55 at e
            generalize tm.getD 56 undef = u56 at e
            generalize tm.getD 57 undef = u57 at e
            generalize tm.getD 58 undef = u58 at e
            generalize tm.getD 59 undef = u59 at e
            generalize tm.getD 60 undef = u60 at e
            generalize tm.getD 61 undef = u61 at e
            generalize tm.getD 62 undef = u62 at e
            generalize tm.getD 63 undef = u63 at e
            generalize tm.getD 64 undef = u64 at e
            generalize tm.getD 65 undef = u65 at e
            generalize tm.getD 66 undef = u66 at e
            generalize tm.getD 67 undef = u67 at e
            generalize tm.getD 68 undef = u68 at e
            generalize tm.getD 69 undef = u69 at e
            generalize tm.getD 70 undef = u70 at e
            generalize tm.getD 71 undef = u71 at e
            generalize tm.getD 72 undef = u72 at e
            generalize tm.getD 73 undef = u73 at e
            generalize tm.getD 74 undef = u74 at e
            generalize tm.getD 75 undef = u75 at e
            generalize tm.getD 76 undef = u76 at e
            generalize tm.getD 77 undef = u77 at e
            generalize tm.getD 78 undef = u78 at e
            generalize tm.getD 80 undef = u80 at e
            generalize tm.getD 81 undef = u81 at e
            generalize tm.getD 82 undef = u82 at e
            generalize tm.getD 83 undef = u83 at e
            generalize tm.getD 84 undef = u84 at e
            generalize tm.getD 85 undef = u85 at e
            generalize tm.getD 86 undef = u86 at e
            generalize tm.getD 87 undef = u87 at e
            generalize tm.getD 88 undef = u88 at e
            generalize tm.getD 89 undef = u89 at e
            generalize tm.getD 90 undef = u90 at e
            generalize tm.getD 91 undef = u91 at e
            generalize tm.getD 92 undef = u92 at e
            generalize tm.getD 93 undef = u93 at e
            generalize tm.getD 94 undef = u94 at e
            generalize tm.getD 95 undef = u95 at e
            generalize tm.getD 96 undef = u96 at e
            generalize tm.getD 97 undef = u97 at e
            generalize tm.getD 98 undef = u98 at e
            generalize tm.getD 99 undef = u99 at e
            generalize tm.getD 100 undef = u100 at e
            generalize tm.getD 101 undef = u101 at e
            generalize tm.getD 102 undef = u102 at e
            generalize tm.getD 103 undef = u103 at e
            generalize tm.getD 104 undef = u104 at e
            generalize tm.getD 105 undef = u105 at e
            generalize tm.getD 106 undef = u106 at e
            generalize tm.getD 107 undef = u107 at e
            generalize tm.getD 108 undef = u108 at e
            generalize tm.getD 109 undef = u109 at e
            generalize tm.getD 110 undef = u110 at e
            generalize tm.getD 111 undef = u111 at e
            generalize tm.getD 112 undef = u112 at e
            generalize tm.getD 113 undef = u113 at e
            generalize tm.getD 114 undef = u114 at e
            generalize tm.getD 115 undef = u115 at e
            generalize tm.getD 116 undef = u116 at e
            generalize tm.getD 117 undef = u117 at e
            generalize tm.getD 118 undef = u118 at e
            generalize tm.getD 119 undef = u119 at e
            generalize tm.getD 120 undef = u120 at e
            generalize tm.getD 121 undef = u121 at e
            generalize tm.getD 122 undef = u122 at e
            generalize tm.getD 123 undef = u123 at e
            generalize tm.getD 124 undef = u124 at e
            generalize tm.getD 125 undef = u125 at e
            generalize tm.getD 126 undef = u126 at e
            generalize tm.getD 127 undef = u127 at e
            generalize tm.getD 128 undef = u128 at e
            generalize tm.getD 129 undef = u129 at e
            generalize tm.getD 130 undef = u130 at e
            generalize tm.getD 131 undef = u131 at e
            generalize tm.getD 132 undef = u132 at e
            generalize tm.getD 133 undef = u133 at e
            generalize tm.getD 134 undef = u134 at e
            generalize tm.getD 135 undef = u135 at e
            generalize tm.getD 136 undef = u136 at e
            generalize tm.getD 137 undef = u137 at e
            generalize tm.getD 138 undef = u138 at e
            subst e
            have T0_w17 := Lib.hid (T0_w16.out.below hqw17)
            have T_w17 := Lib.hid (T_w16.out.below hqw17)
            have T1_w17 := Lib.hid (T1_w16.out.below hqw17)
            have B1_w17 := Lib.hid (B1_w16.out.below hqw17)
            have T2_w17 := Lib.hid (T2_w16.out.below hqw17)
            have B2_w17 := Lib.hid (B2_w16.out.below hqw17)
            have None_w17 := Lib.hid (None_w16.out.below hqw17)
            have z0_w17 : w.heap.size < w17.heap.size := Nat.lt_of_lt_of_le z0_w16 hqw17.size
            have z1_w17 : w10.heap.size < w17.heap.size := Nat.lt_of_lt_of_le z1_w16 hqw17.size
            have z2_w17 : w12.heap.size < w17.heap.size := Nat.lt_of_lt_of_le z2_w16 hqw17.size
            have z3_w17 : w14.heap.size < w17.heap.size := Nat.lt_of_lt_of_le z3_w16 hqw17.size
            have B_w17 := bt B_w16 hqw17
            clear T0_w16 T_w16 T1_w16 B1_w16 T2_w16 B2_w16 None_w16 z0_w16 z1_w16 z2_w16 z3_w16 B_w16 hqw17
            simp only [Exit.then]
            clear o_B1_0 o_B1_1 o_B1_2
            have o_T0_0 := T0_w17.out.c (i := 0) rfl
            have o_T0_1 := T0_w17.out.c (i := 1) rfl
            have o_T0_2 := T0_w17.out.c (i := 2) rfl
            go_wp2_with fail
            clear o_T0_0 o_T0_1 o_T0_2
            go_at_call 13
            (with_reducible refine (r_right s ag T_w17.out hsm.out _ hr.out).mono ?_)
            rintro e w18 ⟨rfl, hb18⟩
            have T0_w18 := Lib.hid (T0_w17.out.below hb18)
            have T_w18 := Lib.hid (T_w17.out.below hb18)
            have T1_w18 := Lib.hid (T1_w17.out.below hb18)
            have B1_w18 := Lib.hid (B1_w17.out.below hb18)
            have T2_w18 := Lib.hid (T2_w17.out.below hb18)
            have B2_w18 := Lib.hid (B2_w17.out.below hb18)
            have None_w18 := Lib.hid (None_w17.out.below hb18)
            have z0_w18 : w.heap.size < w18.heap.size := Nat.lt_of_lt_of_le z0_w17 hb18.size
            have z1_w18 : w10.heap.size < w18.heap.size := Nat.lt_of_lt_of_le z1_w17 hb18.size
            have z2_w18 : w12.heap.size < w18.heap.size := Nat.lt_of_lt_of_le z2_w17 hb18.size
            have z3_w18 : w14.heap.size < w18.heap.size := Nat.lt_of_lt_of_le z3_w17 hb18.size
            have B_w18 := bt B_w17 hb18
            clear T0_w17 T_w17 T1_w17 B1_w17 T2_w17 B2_w17 None_w17 z0_w17 z1_w17 z2_w17 z3_w17 B_w17 hb18
            go_wp2_with fail
            go_at_call 18
            (with_reducible refine (hMac.out _).mono ?_)
            rintro e w' ⟨rfl, rfl⟩
            go_wp2_with fail
            go_at_call 19
            (with_reducible refine (hTime.out _).mono ?_)
            rintro e w' ⟨rfl, rfl⟩
            have o_T0_0 := T0_w18.out.c (i := 0) rfl
            have o_T0_1 := T0_w18.out.c (i := 1) rfl
            have o_T0_2 := T0_w18.out.c (i := 2) rfl
            go_wp2_with fail
            clear o_T0_0 o_T0_1 o_T0_2
            go_at_call 20
            (with_reducible refine ((r_find s ag a now T_w18.out hsm.out hnb2.out hm.out)).mono ?_)
            rw [hfw.out]
            rintro e w19 ⟨rfl, hb19⟩
            have T0_w19 := Lib.hid (T0_w18.out.below hb19)
            have T_w19 := Lib.hid (T_w18.out.below hb19)
            have T1_w19 := Lib.hid (T1_w18.out.below hb19)
            have B1_w19 := Lib.hid (B1_w18.out.below hb19)
            have T2_w19 := Lib.hid (T2_w18.out.below hb19)
            have B2_w19 := Lib.hid (B2_w18.out.below hb19)
            have None_w19 := Lib.hid (None_w18.out.below hb19)
            have z0_w19 : w.heap.size < w19.heap.size := Nat.lt_of_lt_of_le z0_w18 hb19.size
            have z1_w19 : w10.heap.size < w19.heap.size := Nat.lt_of_lt_of_le z1_w18 hb19.size
            have z2_w19 : w12.heap.size < w19.heap.size := Nat.lt_of_lt_of_le z2_w18 hb19.size
            have z3_w19 : w14.heap.size < w19.heap.size := Nat.lt_of_lt_of_le z3_w18 hb19.size
            have B_w19 := bt B_w18 hb19
            clear T0_w18 T_w18 T1_w18 B1_w18 T2_w18 B2_w18 None_w18 z0_w18 z1_w18 z2_w18 z3_w18 B_w18 hb19
            go_wp2_with fail
            go_at_call 21
            (with_reducible refine (hPort.out _).mono ?_)
            rintro e w' ⟨rfl, rfl⟩
            have o_B2_0 := B2_w19.out.c (i := 0) rfl
            have o_B2_1 := B2_w19.out.c (i := 1) rfl
            have o_B2_2 := B2_w19.out.c (i := 2) rfl
            have o_None_0 := None_w19.out.c (i := 0) rfl
            have o_None_1 := None_w19.out.c (i := 1) rfl
            have o_None_2 := None_w19.out.c (i := 2) rfl
            go_wp2_with fail
            clear o_B2_0 o_B2_1 o_B2_2 o_None_0 o_None_1 o_None_2
            go_at_call 16
            (with_reducible refine (r_same 0 0 T2_w19.out.tab (TabS.empty _) small_nil).mono ?_)
            rintro e w20 ⟨rfl, hb20⟩
            have T0_w20 := Lib.hid (T0_w19.out.below hb20)
            have T_w20 := Lib.hid (T_w19.out.below hb20)
            have T1_w20 := Lib.hid (T1_w19.out.below hb20)
            have B1_w20 := Lib.hid (B1_w19.out.below hb20)
            have T2_w20 := Lib.hid (T2_w19.out.below hb20)
            have B2_w20 := Lib.hid (B2_w19.out.below hb20)
            have None_w20 := Lib.hid (None_w19.out.below hb20)
            have z0_w20 : w.heap.size < w20.heap.size := Nat.lt_of_lt_of_le z0_w19 hb20.size
            have z1_w20 : w10.heap.size < w20.heap.size := Nat.lt_of_lt_of_le z1_w19 hb20.size
            have z2_w20 : w12.heap.size < w20.heap.size := Nat.lt_of_lt_of_le z2_w19 hb20.size
            have z3_w20 : w14.heap.size < w20.heap.size := Nat.lt_of_lt_of_le z3_w19 hb20.size
            have B_w20 := bt B_w19 hb20
            clear T0_w19 T_w19 T1_w19 B1_w19 T2_w19 B2_w19 None_w19 z0_w19 z1_w19 z2_w19 z3_w19 B_w19 hb20
            go_wp2_with fail
            go_ret
            exact ⟨rfl, B_w20⟩
          | true =>
            rw [hpo] at hPort
            have hlo : Hid (learnOk bs s ag a port now = true) := Lib.hid (by unfold learnOk; rw [hr, hm, hpo, htm]; rfl)
            obtain ⟨bs', hL⟩ : ∃ b, learnT bs s a port now = b := ⟨_, rfl⟩
            have hrl : Hid (rLearn bs s a port now = bs') := Lib.hid (by rw [rLearn_eq hr, hL])
            have hsm' : Hid (Small bs') := Lib.hid (by rw [← hL]; exact right_small (learn_right hlo.out))
            replace hL := Lib.hid hL
            replace hr := Lib.hid hr
            replace hm := Lib.hid hm
            replace htm := Lib.hid htm
            replace hpo := Lib.hid hpo
            go_wp2_with fail
            go_at_call 9
            (with_reducible refine (new_yes hsz.out).mono ?_)
            rintro e w10 ⟨A1, n1, c1, rfl, T1, hb10⟩
            have T0_w10 := Lib.hid (T0_w9.out.below hb10)
            have T_w10 := Lib.hid (T_w9.out.below hb10)
            have T1_w10 := Lib.hid (T1)
            have z0_w10 : w.heap.size < w10.heap.size := Nat.lt_of_lt_of_le z0_w9 hb10.size
            have B_w10 := bt B_w9 hb10
            clear T0_w9 T_w9 z0_w9 B_w9 hb10
            clear T1
            have o_T0_0 := T0_w10.out.c (i := 0) rfl
            have o_T0_1 := T0_w10.out.c (i := 1) rfl
            have o_T0_2 := T0_w10.out.c (i := 2) rfl
            go_wp2_with fail
            clear o_T0_0 o_T0_1 o_T0_2
            obtain ⟨w11, hw11⟩ : ∃ W, W = w10.alloc (.cells #[.slice A1 n1 c1, .int .i64 sq, .int .i64 gq] 24) := ⟨_, rfl⟩
            have bw11 : Below w10.heap.size w10 w11 := by rw [hw11]; exact (Below.refl _ _).alloc (Nat.le_refl _) _
            have Xw11 : Bx w11 w10.heap.size 24 #[.slice A1 n1 c1, .int .i64 sq, .int .i64 gq] := by rw [hw11]; exact Bx.new _ _ _ rfl
            rw [← hw11]
            clear hw11
            have T0_w11 := Lib.hid (T0_w10.out.below bw11)
            have T_w11 := Lib.hid (T_w10.out.below bw11)
            have T1_w11 := Lib.hid (T1_w10.out.below bw11)
            have B1_w11 := Lib.hid (Xw11)
            have z0_w11 : w.heap.size < w11.heap.size := Nat.lt_of_lt_of_le z0_w10 bw11.size
            have B_w11 := bt B_w10 bw11
            clear T0_w10 T_w10 T1_w10 z0_w10 B_w10 bw11
            have z1_w11 : w10.heap.size < w11.heap.size := Xw11.lt
            clear Xw11
            go_at_call 10
            (with_reducible refine (learn_yes T_w11.out hlo.out hL.out).mono ?_)
            rintro e w12 ⟨A2, n2, c2, rfl, T2, hb12⟩
            have T0_w12 := Lib.hid (T0_w11.out.below hb12)
            have T_w12 := Lib.hid (T_w11.out.below hb12)
            have T1_w12 := Lib.hid (T1_w11.out.below hb12)
            have B1_w12 := Lib.hid (B1_w11.out.below hb12)
            have T2_w12 := Lib.hid (T2)
            have z0_w12 : w.heap.size < w12.heap.size := Nat.lt_of_lt_of_le z0_w11 hb12.size
            have z1_w12 : w10.heap.size < w12.heap.size := Nat.lt_of_lt_of_le z1_w11 hb12.size
            have B_w12 := bt B_w11 hb12
            clear T0_w11 T_w11 T1_w11 B1_w11 z0_w11 z1_w11 B_w11 hb12
            clear T2
            have o_T0_0 := T0_w12.out.c (i := 0) rfl
            have o_T0_1 := T0_w12.out.c (i := 1) rfl
            have o_T0_2 := T0_w12.out.c (i := 2) rfl
            go_wp2_with fail
            clear o_T0_0 o_T0_1 o_T0_2
            obtain ⟨w13, hw13⟩ : ∃ W, W = w12.alloc (.cells #[.slice A2 n2 c2, .int .i64 s, .int .i64 ag] 24) := ⟨_, rfl⟩
            have bw13 : Below w12.heap.size w12 w13 := by rw [hw13]; exact (Below.refl _ _).alloc (Nat.le_refl _) _
            have Xw13 : Bx w13 w12.heap.size 24 #[.slice A2 n2 c2, .int .i64 s, .int .i64 ag] := by rw [hw13]; exact Bx.new _ _ _ rfl
            rw [← hw13]
            clear hw13
            have T0_w13 := Lib.hid (T0_w12.out.below bw13)
            have T_w13 := Lib.hid (T_w12.out.below bw13)
            have T1_w13 := Lib.hid (T1_w12.out.below bw13)
            have B1_w13 := Lib.hid (B1_w12.out.below bw13)
            have T2_w13 := Lib.hid (T2_w12.out.below bw13)
            have B2_w13 := Lib.hid (Xw13)
            have z0_w13 : w.heap.size < w13.heap.size := Nat.lt_of_lt_of_le z0_w12 bw13.size
            have z1_w13 : w10.heap.size < w13.heap.size := Nat.lt_of_lt_of_le z1_w12 bw13.size
            have B_w13 := bt B_w12 bw13
            clear T0_w12 T_w12 T1_w12 B1_w12 T2_w12 z0_w12 z1_w12 B_w12 bw13
            have z2_w13 : w12.heap.size < w13.heap.size := Xw13.lt
            clear Xw13
            go_at_call 11
            (with_reducible refine (find_yes T_w13.out hfo.out hp.out).mono ?_)
            rintro e w14 ⟨rfl, hb14⟩
            have T0_w14 := Lib.hid (T0_w13.out.below hb14)
            have T_w14 := Lib.hid (T_w13.out.below hb14)
            have T1_w14 := Lib.hid (T1_w13.out.below hb14)
            have B1_w14 := Lib.hid (B1_w13.out.below hb14)
            have T2_w14 := Lib.hid (T2_w13.out.below hb14)
            have B2_w14 := Lib.hid (B2_w13.out.below hb14)
            have z0_w14 : w.heap.size < w14.heap.size := Nat.lt_of_lt_of_le z0_w13 hb14.size
            have z1_w14 : w10.heap.size < w14.heap.size := Nat.lt_of_lt_of_le z1_w13 hb14.size
            have z2_w14 : w12.heap.size < w14.heap.size := Nat.lt_of_lt_of_le z2_w13 hb14.size
            have B_w14 := bt B_w13 hb14
            clear T0_w13 T_w13 T1_w13 B1_w13 T2_w13 B2_w13 z0_w13 z1_w13 z2_w13 B_w13 hb14
            have o_T0_0 := T0_w14.out.c (i := 0) rfl
            have o_T0_1 := T0_w14.out.c (i := 1) rfl
            have o_T0_2 := T0_w14.out.c (i := 2) rfl
            go_wp2_with fail
            clear o_T0_0 o_T0_1 o_T0_2
            obtain ⟨w15, hw15⟩ : ∃ W, W = w14.alloc (.cells #[.slice none 0 0, .int .i64 0, .int .i64 0] 24) := ⟨_, rfl⟩
            have bw15 : Below w14.heap.size w14 w15 := by rw [hw15]; exact (Below.refl _ _).alloc (Nat.le_refl _) _
            have Xw15 : Bx w15 w14.heap.size 24 #[.slice none 0 0, .int .i64 0, .int .i64 0] := by rw [hw15]; exact Bx.new _ _ _ rfl
            rw [← hw15]
            clear hw15
            have T0_w15 := Lib.hid (T0_w14.out.below bw15)
            have T_w15 := Lib.hid (T_w14.out.below bw15)
            have T1_w15 := Lib.hid (T1_w14.out.below bw15)
            have B1_w15 := Lib.hid (B1_w14.out.below bw15)
            have T2_w15 := Lib.hid (T2_w14.out.below bw15)
            have B2_w15 := Lib.hid (B2_w14.out.below bw15)
            have None_w15 := Lib.hid (Xw15)
            have z0_w15 : w.heap.size < w15.heap.size := Nat.lt_of_lt_of_le z0_w14 bw15.size
            have z1_w15 : w10.heap.size < w15.heap.size := Nat.lt_of_lt_of_le z1_w14 bw15.size
            have z2_w15 : w12.heap.size < w15.heap.size := Nat.lt_of_lt_of_le z2_w14 bw15.size
            have B_w15 := bt B_w14 bw15
            clear T0_w14 T_w14 T1_w14 B1_w14 T2_w14 B2_w14 z0_w14 z1_w14 z2_w14 B_w14 bw15
            have z3_w15 : w14.heap.size < w15.heap.size := Xw15.lt
            clear Xw15
            have K_T0_0 := cell_regrown (T0_w15.out.c (i := 0) rfl)
            have K_T0_1 := cell_regrown (T0_w15.out.c (i := 1) rfl)
            have K_T0_2 := cell_regrown (T0_w15.out.c (i := 2) rfl)
            have cC0 := fun (d : Nat) (os : Array Obj) => Calls.regrown_of (fdRight s ag (T_w15.out.below (below_regrown w15 d os)) hsm.out _ hr.out)
            have cC1 := fun (d : Nat) (os : Array Obj) => Calls.regrown_of (r_right s ag (T_w15.out.below (below_regrown w15 d os)) hsm.out _ hr.out)
            have cC2 := fun (d : Nat) (os : Array Obj) => Calls.regrown_of (alive_any (Go.Sort.grow (redrawn w15 d) os))
            refine wp_region_quiet_below (by kernel_rfl) (by kernel_rfl) ?_
            repeat (first | go_big_quiet_step (first | with_reducible exact cC0 _ _ | with_reducible exact cC1 _ _ | with_reducible exact cC2 _ _) | quiet_step (first | with_reducible exact cC0 _ _ | with_reducible exact cC1 _ _ | with_reducible exact cC2 _ _))
            refine wpQuiet_nil ?_
            intro _ hw'
            obtain ⟨⟨dq, osq⟩, hw''⟩ := hw'
            subst hw''
            have hqw16 := below_regrown w15 dq osq
            clear K_T0_0 K_T0_1 K_T0_2 cC0 cC1 cC2
            generalize Go.Sort.grow (redrawn w15 dq) osq = w16 at *
            have T0_w16 := Lib.hid (T0_w15.out.below hqw16)
            have T_w16 := Lib.hid (T_w15.out.below hqw16)
            have T1_w16 := Lib.hid (T1_w15.out.below hqw16)
            have B1_w16 := Lib.hid (B1_w15.out.below hqw16)
            have T2_w16 := Lib.hid (T2_w15.out.below hqw16)
            have B2_w16 := Lib.hid (B2_w15.out.below hqw16)
            have None_w16 := Lib.hid (None_w15.out.below hqw16)
            have z0_w16 : w.heap.size < w16.heap.size := Nat.lt_of_lt_of_le z0_w15 hqw16.size
            have z1_w16 : w10.heap.size < w16.heap.size := Nat.lt_of_lt_of_le z1_w15 hqw16.size
            have z2_w16 : w12.heap.size < w16.heap.size := Nat.lt_of_lt_of_le z2_w15 hqw16.size
            have z3_w16 : w14.heap.size < w16.heap.size := Nat.lt_of_lt_of_le z3_w15 hqw16.size
            have B_w16 := bt B_w15 hqw16
            clear T0_w15 T_w15 T1_w15 B1_w15 T2_w15 B2_w15 None_w15 z0_w15 z1_w15 z2_w15 z3_w15 B_w15 hqw16
            go_wp2_with fail
            go_at_call 15
            (with_reducible refine (hSz.out _).mono ?_)
            rintro e w' ⟨rfl, rfl⟩
            go_wp2_with fail
            have o_B1_0 := B1_w16.out.c (i := 0) rfl
            have o_B1_1 := B1_w16.out.c (i := 1) rfl
            have o_B1_2 := B1_w16.out.c (i := 2) rfl
            refine wp_region_opsG (by kernel_rfl) (fun ix => match ix with | 0 => 69 | 1 => 70 | 2 => 71 | 3 => 72 | 4 => 73 | 5 => 74 | 6 => 75 | 7 => 76 | 8 => 77 | 9 => 78 | 10 => 79 | _ => 0) [(2, false)] (by kernel_rfl) (by kernel_rfl) (fun i v W => match i with | 0 => v = .int .i64 0 | 1 => v = .bool false | 2 => v = .bool false | 3 => v = tbv (.slice A1 n1 c1) sq gq | 4 => v = .int .i64 nq | 5 => v = .int .i64 sq | 6 => v = .int .i64 gq | 7 => ∃ A n c, v = tbv (.slice A n c) sq gq ∧ TabS W A n c (List.replicate nq.toNat []) | 8 => v = .bool true | 9 => v = .bool false | 10 => v = .bool false | _ => True) (fun i v W W' h hb => by
                match i with
                | 0 => exact h
                | 1 => exact h
                | 2 => exact h
                | 3 => exact h
                | 4 => exact h
                | 5 => exact h
                | 6 => exact h
                | 8 => exact h
                | 9 => exact h
                | 10 => exact h
                | 7 => (obtain ⟨A, n, c, h1, h2⟩ := h; exact ⟨A, n, c, h1, h2.below hb⟩)
                | n + 11 => exact trivial) (fun g hg v W h => by
                simp only [List.mem_singleton] at hg
                subst hg
                exact h) ?_ ?_
            refine ⟨?_, ?_, ?_, ?_, ?_, ?_, ?_, ?_, ?_, ?_, ?_, trivial⟩
            · as_aux_lemma =>
                intro a9 W2 K hb hdep hk hK
                replace hK : ∀ v w', (v = .int .i64 0) → Below W2.heap.size W2 w' → K (a9.put (some 69) v) w' := hK
                have d16 : a9.tmps.getD 16 undef = .int .i64 0 := hk 16 (by kernel_rfl)
                clear hdep hk
                go_simp
                exact hK _ _ rfl (Below.refl _ _)
            · as_aux_lemma =>
                intro a9 W2 K hb hdep hk hK
                replace hK : ∀ v w', (v = .bool false) → Below W2.heap.size W2 w' → K (a9.put (some 70) v) w' := hK
                have d69 : a9.tmps.getD 69 undef = .int .i64 0 := hdep ⟨0, .data⟩ (by simp) rfl
                clear hdep hk
                go_simp
                exact hK _ _ rfl (Below.refl _ _)
            · as_aux_lemma =>
                intro a9 W2 K hb hdep hk hK
                replace hK : ∀ v w', (v = .bool false) → Below W2.heap.size W2 w' → K (a9.put (some 71) v) w' := hK
                have d70 : a9.tmps.getD 70 undef = .bool false := hdep ⟨1, .data⟩ (by simp) rfl
                clear hdep hk
                go_simp
                exact hK _ _ rfl (Below.refl _ _)
            · as_aux_lemma =>
                intro a9 W2 K hb hdep hk hK
                replace hK : ∀ v w', (v = tbv (.slice A1 n1 c1) sq gq) → Below W2.heap.size W2 w' → K (a9.put (some 72) v) w' := hK
                have d15 : a9.tmps.getD 15 undef = .pointer (some ⟨w10.heap.size, 0, none⟩) := hk 15 (by kernel_rfl)
                have t0 := (hb.cell (p := ⟨w10.heap.size, 0, none⟩) z1_w16).trans o_B1_0
                have t1 := (hb.cell (p := ⟨w10.heap.size, 1, none⟩) z1_w16).trans o_B1_1
                have t2 := (hb.cell (p := ⟨w10.heap.size, 2, none⟩) z1_w16).trans o_B1_2
                clear hdep hk
                go_simp
                exact hK _ _ rfl (Below.refl _ _)
            · as_aux_lemma =>
                intro a9 W2 K hb hdep hk hK
                replace hK : ∀ v w', (v = .int .i64 nq) → Below W2.heap.size W2 w' → K (a9.put (some 73) v) w' := hK
                have d0 : a9.tmps.getD 0 undef = .int .i64 nq := hk 0 (by kernel_rfl)
                clear hdep hk
                go_simp
                exact hK _ _ rfl (Below.refl _ _)
            · as_aux_lemma =>
                intro a9 W2 K hb hdep hk hK
                replace hK : ∀ v w', (v = .int .i64 sq) → Below W2.heap.size W2 w' → K (a9.put (some 74) v) w' := hK
                have d1 : a9.tmps.getD 1 undef = .int .i64 sq := hk 1 (by kernel_rfl)
                clear hdep hk
                go_simp
                exact hK _ _ rfl (Below.refl _ _)
            · as_aux_lemma =>
                intro a9 W2 K hb hdep hk hK
                replace hK : ∀ v w', (v = .int .i64 gq) → Below W2.heap.size W2 w' → K (a9.put (some 75) v) w' := hK
                have d2 : a9.tmps.getD 2 undef = .int .i64 gq := hk 2 (by kernel_rfl)
                clear hdep hk
                go_simp
                exact hK _ _ rfl (Below.refl _ _)
            · as_aux_lemma =>
                intro a9 W2 K hb hdep hk hK
                replace hK : ∀ v w', (∃ A n c, v = tbv (.slice A n c) sq gq ∧ TabS w' A n c (List.replicate nq.toNat [])) → Below W2.heap.size W2 w' → K (a9.put (some 76) v) w' := hK
                have d73 : a9.tmps.getD 73 undef = .int .i64 nq := hdep ⟨4, .data⟩ (by simp) rfl
                have d74 : a9.tmps.getD 74 undef = .int .i64 sq := hdep ⟨5, .data⟩ (by simp) rfl
                have d75 : a9.tmps.getD 75 undef = .int .i64 gq := hdep ⟨6, .data⟩ (by simp) rfl
                clear hdep hk
                go_simp
                refine (r_new nq sq gq _ hnb.out).mono ?_
                rintro e w9 ⟨A8, n8, c8, rfl, r1, r2⟩
                exact hK _ _ ⟨A8, n8, c8, rfl, r1⟩ r2
            · as_aux_lemma =>
                intro a9 W2 K hb hdep hk hK
                replace hK : ∀ v w', (v = .bool true) → Below W2.heap.size W2 w' → K (a9.put (some 77) v) w' := hK
                have d72 : a9.tmps.getD 72 undef = tbv (.slice A1 n1 c1) sq gq := hdep ⟨3, .data⟩ (by simp) rfl
                obtain ⟨A8, n8, c8, d76, r1⟩ : ∃ A n c, a9.tmps.getD 76 undef = tbv (.slice A n c) sq gq ∧ TabS W2 A n c (List.replicate nq.toNat []) := hdep ⟨7, .data⟩ (by simp) rfl
                have hcall := Lib.hid (r_same sq gq (T1_w16.out.below hb).tab r1 hsmN.out)
                clear hdep hk
                have q72 : a9.tmps[72]?.getD undef = tbv (.slice A1 n1 c1) sq gq := by simpa [Array.getD_eq_getD_getElem?] using d72
                clear d72
                have q76 : a9.tmps[76]?.getD undef = tbv (.slice A8 n8 c8) sq gq := by simpa [Array.getD_eq_getD_getElem?] using d76
                clear d76
                go_simp
                refine hcall.out.mono ?_
                rintro e w9 ⟨rfl, r2⟩
                exact hK _ _ rfl r2
            · as_aux_lemma =>
                intro a9 W2 K hb hdep hk hK
                replace hK : ∀ v w', (v = .bool false) → Below W2.heap.size W2 w' → K (a9.put (some 78) v) w' := hK
                have d77 : a9.tmps.getD 77 undef = .bool true := hdep ⟨8, .data⟩ (by simp) rfl
                clear hdep hk
                go_simp
                exact hK _ _ rfl (Below.refl _ _)
            · as_aux_lemma =>
                intro a9 W2 K hb hdep hk hK
                replace hK : ∀ v w', (v = .bool false) → Below W2.heap.size W2 w' → K (a9.put (some 79) v) w' := hK
                have d71 : a9.tmps.getD 71 undef = .bool false := hdep ⟨2, .data⟩ (by simp) rfl
                have d78 : a9.tmps.getD 78 undef = .bool false := hdep ⟨9, .data⟩ (by simp) rfl
                clear hdep hk
                go_simp
                exact hK _ _ rfl (Below.refl _ _)
            intro af w17 hqw17 hsp hk hn hdf
            have hx10 : af.tmps.getD 79 undef = .bool false := hsp 10 (by decide)
            clear hsp
            have s0 : af.tmps.getD 0 undef = .int .i64 nq := hk 0 (by kernel_rfl)
            have s1 : af.tmps.getD 1 undef = .int .i64 sq := hk 1 (by kernel_rfl)
            have s2 : af.tmps.getD 2 undef = .int .i64 gq := hk 2 (by kernel_rfl)
            have s4 : af.tmps.getD 4 undef = .int .i64 a := hk 4 (by kernel_rfl)
            have s5 : af.tmps.getD 5 undef = .int .i64 port := hk 5 (by kernel_rfl)
            have s6 : af.tmps.getD 6 undef = .int .i64 now := hk 6 (by kernel_rfl)
            have s10 : af.tmps.getD 10 undef = .pointer (some ⟨w.heap.size, 0, none⟩) := hk 10 (by kernel_rfl)
            have s14 : af.tmps.getD 14 undef = .bool false := hk 14 (by kernel_rfl)
            have s15 : af.tmps.getD 15 undef = .pointer (some ⟨w10.heap.size, 0, none⟩) := hk 15 (by kernel_rfl)
            have s16 : af.tmps.getD 16 undef = .int .i64 0 := hk 16 (by kernel_rfl)
            have s17 : af.tmps.getD 17 undef = .pointer (some ⟨w12.heap.size, 0, none⟩) := hk 17 (by kernel_rfl)
            have s18 : af.tmps.getD 18 undef = .int .i64 0 := hk 18 (by kernel_rfl)
            have s19 : af.tmps.getD 19 undef = .int .i64 p := hk 19 (by kernel_rfl)
            have s20 : af.tmps.getD 20 undef = .int .i64 0 := hk 20 (by kernel_rfl)
            have s21 : af.tmps.getD 21 undef = .pointer (some ⟨w14.heap.size, 0, none⟩) := hk 21 (by kernel_rfl)
            have s79 : af.tmps.getD 79 undef = .bool false := hx10
            clear hk hx10
            obtain ⟨tm, df⟩ := af
            have e := arr_out tm 139 hn
            replace e : tm = #[tm.getD 0 undef, tm.getD 1 undef, tm.getD 2 undef, tm.getD 3 undef, tm.getD 4 undef, tm.getD 5 undef, tm.getD 6 undef, tm.getD 7 undef, tm.getD 8 undef, tm.getD 9 undef, tm.getD 10 undef, tm.getD 11 undef, tm.getD 12 undef, tm.getD 13 undef, tm.getD 14 undef, tm.getD 15 undef, tm.getD 16 undef, tm.getD 17 undef, tm.getD 18 undef, tm.getD 19 undef, tm.getD 20 undef, tm.getD 21 undef, tm.getD 22 undef, tm.getD 23 undef, tm.getD 24 undef, tm.getD 25 undef, tm.getD 26 undef, tm.getD 27 undef, tm.getD 28 undef, tm.getD 29 undef, tm.getD 30 undef, tm.getD 31 undef, tm.getD 32 undef, tm.getD 33 undef, tm.getD 34 undef, tm.getD 35 undef, tm.getD 36 undef, tm.getD 37 undef, tm.getD 38 undef, tm.getD 39 undef, tm.getD 40 undef, tm.getD 41 undef, tm.getD 42 undef, tm.getD 43 undef, tm.getD 44 undef, tm.getD 45 undef, tm.getD 46 undef, tm.getD 47 undef, tm.getD 48 undef, tm.getD 49 undef, tm.getD 50 undef, tm.getD 51 undef, tm.getD 52 undef, tm.getD 53 undef, tm.getD 54 undef, tm.getD 55 undef, tm.getD 56 undef, tm.getD 57 undef, tm.getD 58 undef, tm.getD 59 undef, tm.getD 60 undef, tm.getD 61 undef, tm.getD 62 undef, tm.getD 63 undef, tm.getD 64 undef, tm.getD 65 undef, tm.getD 66 undef, tm.getD 67 undef, tm.getD 68 undef, tm.getD 69 undef, tm.getD 70 undef, tm.getD 71 undef, tm.getD 72 undef, tm.getD 73 undef, tm.getD 74 undef, tm.getD 75 undef, tm.getD 76 undef, tm.getD 77 undef, tm.getD 78 undef, tm.getD 79 undef, tm.getD 80 undef, tm.getD 81 undef, tm.getD 82 undef, tm.getD 83 undef, tm.getD 84 undef, tm.getD 85 undef, tm.getD 86 undef, tm.getD 87 undef, tm.getD 88 undef, tm.getD 89 undef, tm.getD 90 undef, tm.getD 91 undef, tm.getD 92 undef, tm.getD 93 undef, tm.getD 94 undef, tm.getD 95 undef, tm.getD 96 undef, tm.getD 97 undef, tm.getD 98 undef, tm.getD 99 undef, tm.getD 100 undef, tm.getD 101 undef, tm.getD 102 undef, tm.getD 103 undef, tm.getD 104 undef, tm.getD 105 undef, tm.getD 106 undef, tm.getD 107 undef, tm.getD 108 undef, tm.getD 109 undef, tm.getD 110 undef, tm.getD 111 undef, tm.getD 112 undef, tm.getD 113 undef, tm.getD 114 undef, tm.getD 115 undef, tm.getD 116 undef, tm.getD 117 undef, tm.getD 118 undef, tm.getD 119 undef, tm.getD 120 undef, tm.getD 121 undef, tm.getD 122 undef, tm.getD 123 undef, tm.getD 124 undef, tm.getD 125 undef, tm.getD 126 undef, tm.getD 127 undef, tm.getD 128 undef, tm.getD 129 undef, tm.getD 130 undef, tm.getD 131 undef, tm.getD 132 undef, tm.getD 133 undef, tm.getD 134 undef, tm.getD 135 undef, tm.getD 136 undef, tm.getD 137 undef, tm.getD 138 undef] := e
            simp only at s0 s1 s2 s4 s5 s6 s10 s14 s15 s16 s17 s18 s19 s20 s21 s79 hdf
            rw [s0, s1, s2, s4, s5, s6, s10, s14, s15, s16, s17, s18, s19, s20, s21, s79] at e
            subst hdf
            clear s0 s1 s2 s4 s5 s6 s10 s14 s15 s16 s17 s18 s19 s20 s21 s79 hn
            generalize tm.getD 3 undef = u3 at e
            generalize tm.getD 7 undef = u7 at e
            generalize tm.getD 8 undef = u8 at e
            generalize tm.getD 9 undef = u9 at e
            generalize tm.getD 11 undef = u11 at e
            generalize tm.getD 12 undef = u12 at e
            generalize tm.getD 13 undef = u13 at e
            generalize tm.getD 22 undef = u22 at e
            generalize tm.getD 23 undef = u23 at e
            generalize tm.getD 24 undef = u24 at e
            generalize tm.getD 25 undef = u25 at e
            generalize tm.getD 26 undef = u26 at e
            generalize tm.getD 27 undef = u27 at e
            generalize tm.getD 28 undef = u28 at e
            generalize tm.getD 29 undef = u29 at e
            generalize tm.getD 30 undef = u30 at e
            generalize tm.getD 31 undef = u31 at e
            generalize tm.getD 32 undef = u32 at e
            generalize tm.getD 33 undef = u33 at e
            generalize tm.getD 34 undef = u34 at e
            generalize tm.getD 35 undef = u35 at e
            generalize tm.getD 36 undef = u36 at e
            generalize tm.getD 37 undef = u37 at e
            generalize tm.getD 38 undef = u38 at e
            generalize tm.getD 39 undef = u39 at e
            generalize tm.getD 40 undef = u40 at e
            generalize tm.getD 41 undef = u41 at e
            generalize tm.getD 42 undef = u42 at e
            generalize tm.getD 43 undef = u43 at e
            generalize tm.getD 44 undef = u44 at e
            generalize tm.getD 45 undef = u45 at e
            generalize tm.getD 46 undef = u46 at e
            generalize tm.getD 47 undef = u47 at e
            generalize tm.getD 48 undef = u48 at e
            generalize tm.getD 49 undef = u49 at e
            generalize tm.getD 50 undef = u50 at e
            generalize tm.getD 51 undef = u51 at e
            generalize tm.getD 52 undef = u52 at e
            generalize tm.getD 53 undef = u53 at e
            generalize tm.getD 54 undef = u54 at e
            generalize tm.getD 55 undef = u55 at e
            generalize tm.getD 56 undef = u56 at e
            generalize tm.getD 57 undef = u57 at e
            generalize tm.getD 58 undef = u58 at e
            generalize tm.getD 59 undef = u59 at e
            generalize tm.getD 60 undef = u60 at e
            generalize tm.getD 61 undef = u61 at e
            generalize tm.getD 62 undef = u62 at e
            generalize tm.getD 63 undef = u63 at e
            generalize tm.getD 64 undef = u64 at e
            generalize tm.getD 65 undef = u65 at e
            generalize tm.getD 66 undef = u66 at e
            generalize tm.getD 67 undef = u67 at e
            generalize tm.getD 68 undef = u68 at e
            generalize tm.getD 69 undef = u69 at e
            generalize tm.getD 70 undef = u70 at e
            generalize tm.getD 71 undef = u71 at e
            generalize tm.getD 72 undef = u72 at e
            generalize tm.getD 73 undef = u73 at e
            generalize tm.getD 74 undef = u74 at e
            generalize tm.getD 75 undef = u75 at e
            generalize tm.getD 76 undef = u76 at e
            generalize tm.getD 77 undef = u77 at e
            generalize tm.getD 78 undef = u78 at e
            generalize tm.getD 80 undef = u80 at e
            generalize tm.getD 81 undef = u81 at e
            generalize tm.getD 82 undef = u82 at e
            generalize tm.getD 83 undef = u83 at e
            generalize tm.getD 84 undef = u84 at e
            generalize tm.getD 85 undef = u85 at e
            generalize tm.getD 86 undef = u86 at e
            generalize tm.getD 87 undef = u87 at e
            generalize tm.getD 88 undef = u88 at e
            generalize tm.getD 89 undef = u89 at e
            generalize tm.getD 90 undef = u90 at e
            generalize tm.getD 91 undef = u91 at e
            generalize tm.getD 92 undef = u92 at e
            generalize tm.getD 93 undef = u93 at e
            generalize tm.getD 94 undef = u94 at e
            generalize tm.getD 95 undef = u95 at e
            generalize tm.getD 96 undef = u96 at e
            generalize tm.getD 97 undef = u97 at e
            generalize tm.getD 98 undef = u98 at e
            generalize tm.getD 99 undef = u99 at e
            generalize tm.getD 100 undef = u100 at e
            generalize tm.getD 101 undef = u101 at e
            generalize tm.getD 102 undef = u102 at e
            generalize tm.getD 103 undef = u103 at e
            generalize tm.getD 104 undef = u104 at e
            generalize tm.getD 105 undef = u105 at e
            generalize tm.getD 106 undef = u106 at e
            generalize tm.getD 107 undef = u107 at e
            generalize tm.getD 108 undef = u108 at e
            generalize tm.getD 109 undef = u109 at e
            generalize tm.getD 110 undef = u110 at e
            generalize tm.getD 111 undef = u111 at e
            generalize tm.getD 112 undef = u112 at e
            generalize tm.getD 113 undef = u113 at e
            generalize tm.getD 114 undef = u114 at e
            generalize tm.getD 115 undef = u115 at e
            generalize tm.getD 116 undef = u116 at e
            generalize tm.getD 117 undef = u117 at e
            generalize tm.getD 118 undef = u118 at e
            generalize tm.getD 119 undef = u119 at e
            generalize tm.getD 120 undef = u120 at e
            generalize tm.getD 121 undef = u121 at e
            generalize tm.getD 122 undef = u122 at e
            generalize tm.getD 123 undef = u123 at e
            generalize tm.getD 124 undef = u124 at e
            generalize tm.getD 125 undef = u125 at e
            generalize tm.getD 126 undef = u126 at e
            generalize tm.getD 127 undef = u127 at e
            generalize tm.getD 128 undef = u128 at e
            generalize tm.getD 129 undef = u129 at e
            generalize tm.getD 130 undef = u130 at e
            generalize tm.getD 131 undef = u131 at e
            generalize tm.getD 132 undef = u132 at e
            generalize tm.getD 133 undef = u133 at e
            generalize tm.getD 134 undef = u134 at e
            generalize tm.getD 135 undef = u135 at e
            generalize tm.getD 136 undef = u136 at e
            generalize tm.getD 137 undef = u137 at e
            generalize tm.getD 138 undef = u138 at e
            subst e
            have T0_w17 := Lib.hid (T0_w16.out.below hqw17)
            have T_w17 := Lib.hid (T_w16.out.below hqw17)
            have T1_w17 := Lib.hid (T1_w16.out.below hqw17)
            have B1_w17 := Lib.hid (B1_w16.out.below hqw17)
            have T2_w17 := Lib.hid (T2_w16.out.below hqw17)
            have B2_w17 := Lib.hid (B2_w16.out.below hqw17)
            have None_w17 := Lib.hid (None_w16.out.below hqw17)
            have z0_w17 : w.heap.size < w17.heap.size := Nat.lt_of_lt_of_le z0_w16 hqw17.size
            have z1_w17 : w10.heap.size < w17.heap.size := Nat.lt_of_lt_of_le z1_w16 hqw17.size
            have z2_w17 : w12.heap.size < w17.heap.size := Nat.lt_of_lt_of_le z2_w16 hqw17.size
            have z3_w17 : w14.heap.size < w17.heap.size := Nat.lt_of_lt_of_le z3_w16 hqw17.size
            have B_w17 := bt B_w16 hqw17
            clear T0_w16 T_w16 T1_w16 B1_w16 T2_w16 B2_w16 None_w16 z0_w16 z1_w16 z2_w16 z3_w16 B_w16 hqw17
            simp only [Exit.then]
            clear o_B1_0 o_B1_1 o_B1_2
            have o_T0_0 := T0_w17.out.c (i := 0) rfl
            have o_T0_1 := T0_w17.out.c (i := 1) rfl
            have o_T0_2 := T0_w17.out.c (i := 2) rfl
            go_wp2_with fail
            clear o_T0_0 o_T0_1 o_T0_2
            go_at_call 13
            (with_reducible refine (r_right s ag T_w17.out hsm.out _ hr.out).mono ?_)
            rintro e w18 ⟨rfl, hb18⟩
            have T0_w18 := Lib.hid (T0_w17.out.below hb18)
            have T_w18 := Lib.hid (T_w17.out.below hb18)
            have T1_w18 := Lib.hid (T1_w17.out.below hb18)
            have B1_w18 := Lib.hid (B1_w17.out.below hb18)
            have T2_w18 := Lib.hid (T2_w17.out.below hb18)
            have B2_w18 := Lib.hid (B2_w17.out.below hb18)
            have None_w18 := Lib.hid (None_w17.out.below hb18)
            have z0_w18 : w.heap.size < w18.heap.size := Nat.lt_of_lt_of_le z0_w17 hb18.size
            have z1_w18 : w10.heap.size < w18.heap.size := Nat.lt_of_lt_of_le z1_w17 hb18.size
            have z2_w18 : w12.heap.size < w18.heap.size := Nat.lt_of_lt_of_le z2_w17 hb18.size
            have z3_w18 : w14.heap.size < w18.heap.size := Nat.lt_of_lt_of_le z3_w17 hb18.size
            have B_w18 := bt B_w17 hb18
            clear T0_w17 T_w17 T1_w17 B1_w17 T2_w17 B2_w17 None_w17 z0_w17 z1_w17 z2_w17 z3_w17 B_w17 hb18
            go_wp2_with fail
            go_at_call 18
            (with_reducible refine (hMac.out _).mono ?_)
            rintro e w' ⟨rfl, rfl⟩
            go_wp2_with fail
            go_at_call 19
            (with_reducible refine (hTime.out _).mono ?_)
            rintro e w' ⟨rfl, rfl⟩
            have o_T0_0 := T0_w18.out.c (i := 0) rfl
            have o_T0_1 := T0_w18.out.c (i := 1) rfl
            have o_T0_2 := T0_w18.out.c (i := 2) rfl
            go_wp2_with fail
            clear o_T0_0 o_T0_1 o_T0_2
            go_at_call 20
            (with_reducible refine ((r_find s ag a now T_w18.out hsm.out hnb2.out hm.out)).mono ?_)
            rw [hfw.out]
            rintro e w19 ⟨rfl, hb19⟩
            have T0_w19 := Lib.hid (T0_w18.out.below hb19)
            have T_w19 := Lib.hid (T_w18.out.below hb19)
            have T1_w19 := Lib.hid (T1_w18.out.below hb19)
            have B1_w19 := Lib.hid (B1_w18.out.below hb19)
            have T2_w19 := Lib.hid (T2_w18.out.below hb19)
            have B2_w19 := Lib.hid (B2_w18.out.below hb19)
            have None_w19 := Lib.hid (None_w18.out.below hb19)
            have z0_w19 : w.heap.size < w19.heap.size := Nat.lt_of_lt_of_le z0_w18 hb19.size
            have z1_w19 : w10.heap.size < w19.heap.size := Nat.lt_of_lt_of_le z1_w18 hb19.size
            have z2_w19 : w12.heap.size < w19.heap.size := Nat.lt_of_lt_of_le z2_w18 hb19.size
            have z3_w19 : w14.heap.size < w19.heap.size := Nat.lt_of_lt_of_le z3_w18 hb19.size
            have B_w19 := bt B_w18 hb19
            clear T0_w18 T_w18 T1_w18 B1_w18 T2_w18 B2_w18 None_w18 z0_w18 z1_w18 z2_w18 z3_w18 B_w18 hb19
            go_wp2_with fail
            go_at_call 21
            (with_reducible refine (hPort.out _).mono ?_)
            rintro e w' ⟨rfl, rfl⟩
            go_wp2_with fail
            have o_B2_0 := B2_w19.out.c (i := 0) rfl
            have o_B2_1 := B2_w19.out.c (i := 1) rfl
            have o_B2_2 := B2_w19.out.c (i := 2) rfl
            have o_T0_0 := T0_w19.out.c (i := 0) rfl
            have o_T0_1 := T0_w19.out.c (i := 1) rfl
            have o_T0_2 := T0_w19.out.c (i := 2) rfl
            refine wp_region_opsG (by kernel_rfl) (fun ix => match ix with | 0 => 128 | 1 => 129 | 2 => 130 | 3 => 131 | 4 => 132 | 5 => 133 | 6 => 134 | 7 => 135 | 8 => 136 | 9 => 137 | 10 => 138 | 11 => 14 | _ => 0) [(2, true)] (by kernel_rfl) (by kernel_rfl) (fun i v W => match i with | 0 => v = .int .i64 0 | 1 => v = .bool true | 2 => v = .bool true | 3 => v = tbv (.slice A2 n2 c2) s ag | 4 => v = tbv (.slice A n c) s ag | 5 => v = .int .i64 a | 6 => v = .int .i64 port | 7 => v = .int .i64 now | 8 => ∃ A n c, v = tbv (.slice A n c) s ag ∧ TabS W A n c bs' | 9 => v = .bool true | 10 => v = .bool true | 11 => v = .bool true | _ => True) (fun i v W W' h hb => by
                match i with
                | 0 => exact h
                | 1 => exact h
                | 2 => exact h
                | 3 => exact h
                | 4 => exact h
                | 5 => exact h
                | 6 => exact h
                | 7 => exact h
                | 9 => exact h
                | 10 => exact h
                | 11 => exact h
                | 8 => (obtain ⟨A, n, c, h1, h2⟩ := h; exact ⟨A, n, c, h1, h2.below hb⟩)
                | n + 12 => exact trivial) (fun g hg v W h => by
                simp only [List.mem_singleton] at hg
                subst hg
                exact h) ?_ ?_
            refine ⟨?_, ?_, ?_, ?_, ?_, ?_, ?_, ?_, ?_, ?_, ?_, ?_, trivial⟩
            · as_aux_lemma =>
                intro a9 W2 K hb hdep hk hK
                replace hK : ∀ v w', (v = .int .i64 0) → Below W2.heap.size W2 w' → K (a9.put (some 128) v) w' := hK
                have d18 : a9.tmps.getD 18 undef = .int .i64 0 := hk 18 (by kernel_rfl)
                clear hdep hk
                go_simp
                exact hK _ _ rfl (Below.refl _ _)
            · as_aux_lemma =>
                intro a9 W2 K hb hdep hk hK
                replace hK : ∀ v w', (v = .bool true) → Below W2.heap.size W2 w' → K (a9.put (some 129) v) w' := hK
                have d128 : a9.tmps.getD 128 undef = .int .i64 0 := hdep ⟨0, .data⟩ (by simp) rfl
                clear hdep hk
                go_simp
                exact hK _ _ rfl (Below.refl _ _)
            · as_aux_lemma =>
                intro a9 W2 K hb hdep hk hK
                replace hK : ∀ v w', (v = .bool true) → Below W2.heap.size W2 w' → K (a9.put (some 130) v) w' := hK
                have d129 : a9.tmps.getD 129 undef = .bool true := hdep ⟨1, .data⟩ (by simp) rfl
                clear hdep hk
                go_simp
                exact hK _ _ rfl (Below.refl _ _)
            · as_aux_lemma =>
                intro a9 W2 K hb hdep hk hK
                replace hK : ∀ v w', (v = tbv (.slice A2 n2 c2) s ag) → Below W2.heap.size W2 w' → K (a9.put (some 131) v) w' := hK
                have d17 : a9.tmps.getD 17 undef = .pointer (some ⟨w12.heap.size, 0, none⟩) := hk 17 (by kernel_rfl)
                have t0 := (hb.cell (p := ⟨w12.heap.size, 0, none⟩) z2_w19).trans o_B2_0
                have t1 := (hb.cell (p := ⟨w12.heap.size, 1, none⟩) z2_w19).trans o_B2_1
                have t2 := (hb.cell (p := ⟨w12.heap.size, 2, none⟩) z2_w19).trans o_B2_2
                clear hdep hk
                go_simp
                exact hK _ _ rfl (Below.refl _ _)
            · as_aux_lemma =>
                intro a9 W2 K hb hdep hk hK
                replace hK : ∀ v w', (v = tbv (.slice A n c) s ag) → Below W2.heap.size W2 w' → K (a9.put (some 132) v) w' := hK
                have d10 : a9.tmps.getD 10 undef = .pointer (some ⟨w.heap.size, 0, none⟩) := hk 10 (by kernel_rfl)
                have t0 := (hb.cell (p := ⟨w.heap.size, 0, none⟩) z0_w19).trans o_T0_0
                have t1 := (hb.cell (p := ⟨w.heap.size, 1, none⟩) z0_w19).trans o_T0_1
                have t2 := (hb.cell (p := ⟨w.heap.size, 2, none⟩) z0_w19).trans o_T0_2
                clear hdep hk
                go_simp
                exact hK _ _ rfl (Below.refl _ _)
            · as_aux_lemma =>
                intro a9 W2 K hb hdep hk hK
                replace hK : ∀ v w', (v = .int .i64 a) → Below W2.heap.size W2 w' → K (a9.put (some 133) v) w' := hK
                have d4 : a9.tmps.getD 4 undef = .int .i64 a := hk 4 (by kernel_rfl)
                clear hdep hk
                go_simp
                exact hK _ _ rfl (Below.refl _ _)
            · as_aux_lemma =>
                intro a9 W2 K hb hdep hk hK
                replace hK : ∀ v w', (v = .int .i64 port) → Below W2.heap.size W2 w' → K (a9.put (some 134) v) w' := hK
                have d5 : a9.tmps.getD 5 undef = .int .i64 port := hk 5 (by kernel_rfl)
                clear hdep hk
                go_simp
                exact hK _ _ rfl (Below.refl _ _)
            · as_aux_lemma =>
                intro a9 W2 K hb hdep hk hK
                replace hK : ∀ v w', (v = .int .i64 now) → Below W2.heap.size W2 w' → K (a9.put (some 135) v) w' := hK
                have d6 : a9.tmps.getD 6 undef = .int .i64 now := hk 6 (by kernel_rfl)
                clear hdep hk
                go_simp
                exact hK _ _ rfl (Below.refl _ _)
            · as_aux_lemma =>
                intro a9 W2 K hb hdep hk hK
                replace hK : ∀ v w', (∃ A n c, v = tbv (.slice A n c) s ag ∧ TabS w' A n c bs') → Below W2.heap.size W2 w' → K (a9.put (some 136) v) w' := hK
                have d132 : a9.tmps.getD 132 undef = tbv (.slice A n c) s ag := hdep ⟨4, .data⟩ (by simp) rfl
                have d133 : a9.tmps.getD 133 undef = .int .i64 a := hdep ⟨5, .data⟩ (by simp) rfl
                have d134 : a9.tmps.getD 134 undef = .int .i64 port := hdep ⟨6, .data⟩ (by simp) rfl
                have d135 : a9.tmps.getD 135 undef = .int .i64 now := hdep ⟨7, .data⟩ (by simp) rfl
                have hcall := r_learn s ag a port now (T_w19.out.below hb) hsm.out hbl.out hnb2.out hm.out
                rw [hrl.out] at hcall
                replace hcall := Lib.hid hcall
                clear hdep hk
                have q132 : a9.tmps[132]?.getD undef = tbv (.slice A n c) s ag := by simpa [Array.getD_eq_getD_getElem?] using d132
                clear d132
                go_simp
                refine hcall.out.mono ?_
                rintro e w9 ⟨A8, n8, c8, rfl, r1, r2⟩
                exact hK _ _ ⟨A8, n8, c8, rfl, r1⟩ r2
            · as_aux_lemma =>
                intro a9 W2 K hb hdep hk hK
                replace hK : ∀ v w', (v = .bool true) → Below W2.heap.size W2 w' → K (a9.put (some 137) v) w' := hK
                have d131 : a9.tmps.getD 131 undef = tbv (.slice A2 n2 c2) s ag := hdep ⟨3, .data⟩ (by simp) rfl
                obtain ⟨A8, n8, c8, d136, r1⟩ : ∃ A n c, a9.tmps.getD 136 undef = tbv (.slice A n c) s ag ∧ TabS W2 A n c bs' := hdep ⟨8, .data⟩ (by simp) rfl
                have hcall := Lib.hid (r_same s ag (T2_w19.out.below hb).tab r1 hsm'.out)
                clear hdep hk
                have q131 : a9.tmps[131]?.getD undef = tbv (.slice A2 n2 c2) s ag := by simpa [Array.getD_eq_getD_getElem?] using d131
                clear d131
                have q136 : a9.tmps[136]?.getD undef = tbv (.slice A8 n8 c8) s ag := by simpa [Array.getD_eq_getD_getElem?] using d136
                clear d136
                go_simp
                refine hcall.out.mono ?_
                rintro e w9 ⟨rfl, r2⟩
                exact hK _ _ rfl r2
            · as_aux_lemma =>
                intro a9 W2 K hb hdep hk hK
                replace hK : ∀ v w', (v = .bool true) → Below W2.heap.size W2 w' → K (a9.put (some 138) v) w' := hK
                have d130 : a9.tmps.getD 130 undef = .bool true := hdep ⟨2, .data⟩ (by simp) rfl
                have d137 : a9.tmps.getD 137 undef = .bool true := hdep ⟨9, .data⟩ (by simp) rfl
                clear hdep hk
                go_simp
                exact hK _ _ rfl (Below.refl _ _)
            · as_aux_lemma =>
                intro a9 W2 K hb hdep hk hK
                replace hK : ∀ v w', (v = .bool true) → Below W2.heap.size W2 w' → K (a9.put (some 14) v) w' := hK
                have d138 : a9.tmps.getD 138 undef = .bool true := hdep ⟨10, .data⟩ (by simp) rfl
                clear hdep hk
                go_simp
                exact hK _ _ rfl (Below.refl _ _)
            intro af w20 hqw20 hsp hk hn hdf
            have hx11 : af.tmps.getD 14 undef = .bool true := hsp 11 (by decide)
            clear hsp
            have s0 : af.tmps.getD 0 undef = .int .i64 nq := hk 0 (by kernel_rfl)
            have s1 : af.tmps.getD 1 undef = .int .i64 sq := hk 1 (by kernel_rfl)
            have s2 : af.tmps.getD 2 undef = .int .i64 gq := hk 2 (by kernel_rfl)
            have s4 : af.tmps.getD 4 undef = .int .i64 a := hk 4 (by kernel_rfl)
            have s5 : af.tmps.getD 5 undef = .int .i64 port := hk 5 (by kernel_rfl)
            have s6 : af.tmps.getD 6 undef = .int .i64 now := hk 6 (by kernel_rfl)
            have s10 : af.tmps.getD 10 undef = .pointer (some ⟨w.heap.size, 0, none⟩) := hk 10 (by kernel_rfl)
            have s15 : af.tmps.getD 15 undef = .pointer (some ⟨w10.heap.size, 0, none⟩) := hk 15 (by kernel_rfl)
            have s16 : af.tmps.getD 16 undef = .int .i64 0 := hk 16 (by kernel_rfl)
            have s17 : af.tmps.getD 17 undef = .pointer (some ⟨w12.heap.size, 0, none⟩) := hk 17 (by kernel_rfl)
            have s18 : af.tmps.getD 18 undef = .int .i64 0 := hk 18 (by kernel_rfl)
            have s19 : af.tmps.getD 19 undef = .int .i64 p := hk 19 (by kernel_rfl)
            have s20 : af.tmps.getD 20 undef = .int .i64 0 := hk 20 (by kernel_rfl)
            have s21 : af.tmps.getD 21 undef = .pointer (some ⟨w14.heap.size, 0, none⟩) := hk 21 (by kernel_rfl)
            have s14 : af.tmps.getD 14 undef = .bool true := hx11
            clear hk hx11
            obtain ⟨tm, df⟩ := af
            have e := arr_out tm 139 hn
            replace e : tm = #[tm.getD 0 undef, tm.getD 1 undef, tm.getD 2 undef, tm.getD 3 undef, tm.getD 4 undef, tm.getD 5 undef, tm.getD 6 undef, tm.getD 7 undef, tm.getD 8 undef, tm.getD 9 undef, tm.getD 10 undef, tm.getD 11 undef, tm.getD 12 undef, tm.getD 13 undef, tm.getD 14 undef, tm.getD 15 undef, tm.getD 16 undef, tm.getD 17 undef, tm.getD 18 undef, tm.getD 19 undef, tm.getD 20 undef, tm.getD 21 undef, tm.getD 22 undef, tm.getD 23 undef, tm.getD 24 undef, tm.getD 25 undef, tm.getD 26 undef, tm.getD 27 undef, tm.getD 28 undef, tm.getD 29 undef, tm.getD 30 undef, tm.getD 31 undef, tm.getD 32 undef, tm.getD 33 undef, tm.getD 34 undef, tm.getD 35 undef, tm.getD 36 undef, tm.getD 37 undef, tm.getD 38 undef, tm.getD 39 undef, tm.getD 40 undef, tm.getD 41 undef, tm.getD 42 undef, tm.getD 43 undef, tm.getD 44 undef, tm.getD 45 undef, tm.getD 46 undef, tm.getD 47 undef, tm.getD 48 undef, tm.getD 49 undef, tm.getD 50 undef, tm.getD 51 undef, tm.getD 52 undef, tm.getD 53 undef, tm.getD 54 undef, tm.getD 55 undef, tm.getD 56 undef, tm.getD 57 undef, tm.getD 58 undef, tm.getD 59 undef, tm.getD 60 undef, tm.getD 61 undef, tm.getD 62 undef, tm.getD 63 undef, tm.getD 64 undef, tm.getD 65 undef, tm.getD 66 undef, tm.getD 67 undef, tm.getD 68 undef, tm.getD 69 undef, tm.getD 70 undef, tm.getD 71 undef, tm.getD 72 undef, tm.getD 73 undef, tm.getD 74 undef, tm.getD 75 undef, tm.getD 76 undef, tm.getD 77 undef, tm.getD 78 undef, tm.getD 79 undef, tm.getD 80 undef, tm.getD 81 undef, tm.getD 82 undef, tm.getD 83 undef, tm.getD 84 undef, tm.getD 85 undef, tm.getD 86 undef, tm.getD 87 undef, tm.getD 88 undef, tm.getD 89 undef, tm.getD 90 undef, tm.getD 91 undef, tm.getD 92 undef, tm.getD 93 undef, tm.getD 94 undef, tm.getD 95 undef, tm.getD 96 undef, tm.getD 97 undef, tm.getD 98 undef, tm.getD 99 undef, tm.getD 100 undef, tm.getD 101 undef, tm.getD 102 undef, tm.getD 103 undef, tm.getD 104 undef, tm.getD 105 undef, tm.getD 106 undef, tm.getD 107 undef, tm.getD 108 undef, tm.getD 109 undef, tm.getD 110 undef, tm.getD 111 undef, tm.getD 112 undef, tm.getD 113 undef, tm.getD 114 undef, tm.getD 115 undef, tm.getD 116 undef, tm.getD 117 undef, tm.getD 118 undef, tm.getD 119 undef, tm.getD 120 undef, tm.getD 121 undef, tm.getD 122 undef, tm.getD 123 undef, tm.getD 124 undef, tm.getD 125 undef, tm.getD 126 undef, tm.getD 127 undef, tm.getD 128 undef, tm.getD 129 undef, tm.getD 130 undef, tm.getD 131 undef, tm.getD 132 undef, tm.getD 133 undef, tm.getD 134 undef, tm.getD 135 undef, tm.getD 136 undef, tm.getD 137 undef, tm.getD 138 undef] := e
            simp only at s0 s1 s2 s4 s5 s6 s10 s15 s16 s17 s18 s19 s20 s21 s14 hdf
            rw [s0, s1, s2, s4, s5, s6, s10, s15, s16, s17, s18, s19, s20, s21, s14] at e
            subst hdf
            clear s0 s1 s2 s4 s5 s6 s10 s15 s16 s17 s18 s19 s20 s21 s14 hn
            generalize tm.getD 3 undef = u3 at e
            generalize tm.getD 7 undef = u7 at e
            generalize tm.getD 8 undef = u8 at e
            generalize tm.getD 9 undef = u9 at e
            generalize tm.getD 11 undef = u11 at e
            generalize tm.getD 12 undef = u12 at e
            generalize tm.getD 13 undef = u13 at e
            generalize tm.getD 22 undef = u22 at e
            generalize tm.getD 23 undef = u23 at e
            generalize tm.getD 24 undef = u24 at e
            generalize tm.getD 25 undef = u25 at e
            generalize tm.getD 26 undef = u26 at e
            generalize tm.getD 27 undef = u27 at e
            generalize tm.getD 28 undef = u28 at e
            generalize tm.getD 29 undef = u29 at e
            generalize tm.getD 30 undef = u30 at e
            generalize tm.getD 31 undef = u31 at e
            generalize tm.getD 32 undef = u32 at e
            generalize tm.getD 33 undef = u33 at e
            generalize tm.getD 34 undef = u34 at e
            generalize tm.getD 35 undef = u35 at e
            generalize tm.getD 36 undef = u36 at e
            generalize tm.getD 37 undef = u37 at e
            generalize tm.getD 38 undef = u38 at e
            generalize tm.getD 39 undef = u39 at e
            generalize tm.getD 40 undef = u40 at e
            generalize tm.getD 41 undef = u41 at e
            generalize tm.getD 42 undef = u42 at e
            generalize tm.getD 43 undef = u43 at e
            generalize tm.getD 44 undef = u44 at e
            generalize tm.getD 45 undef = u45 at e
            generalize tm.getD 46 undef = u46 at e
            generalize tm.getD 47 undef = u47 at e
            generalize tm.getD 48 undef = u48 at e
            generalize tm.getD 49 undef = u49 at e
            generalize tm.getD 50 undef = u50 at e
            generalize tm.getD 51 undef = u51 at e
            generalize tm.getD 52 undef = u52 at e
            generalize tm.getD 53 undef = u53 at e
            generalize tm.getD 54 undef = u54 at e
            generalize tm.getD 55 undef = u55 at e
            generalize tm.getD 56 undef = u56 at e
            generalize tm.getD 57 undef = u57 at e
            generalize tm.getD 58 undef = u58 at e
            generalize tm.getD 59 undef = u59 at e
            generalize tm.getD 60 undef = u60 at e
            generalize tm.getD 61 undef = u61 at e
            generalize tm.getD 62 undef = u62 at e
            generalize tm.getD 63 undef = u63 at e
            generalize tm.getD 64 undef = u64 at e
            generalize tm.getD 65 undef = u65 at e
            generalize tm.getD 66 undef = u66 at e
            generalize tm.getD 67 undef = u67 at e
            generalize tm.getD 68 undef = u68 at e
            generalize tm.getD 69 undef = u69 at e
            generalize tm.getD 70 undef = u70 at e
            generalize tm.getD 71 undef = u71 at e
            generalize tm.getD 72 undef = u72 at e
            generalize tm.getD 73 undef = u73 at e
            generalize tm.getD 74 undef = u74 at e
            generalize tm.getD 75 undef = u75 at e
            generalize tm.getD 76 undef = u76 at e
            generalize tm.getD 77 undef = u77 at e
            generalize tm.getD 78 undef = u78 at e
            generalize tm.getD 79 undef = u79 at e
            generalize tm.getD 80 undef = u80 at e
            generalize tm.getD 81 undef = u81 at e
            generalize tm.getD 82 undef = u82 at e
            generalize tm.getD 83 undef = u83 at e
            generalize tm.getD 84 undef = u84 at e
            generalize tm.getD 85 undef = u85 at e
            generalize tm.getD 86 undef = u86 at e
            generalize tm.getD 87 undef = u87 at e
            generalize tm.getD 88 undef = u88 at e
            generalize tm.getD 89 undef = u89 at e
            generalize tm.getD 90 undef = u90 at e
            generalize tm.getD 91 undef = u91 at e
            generalize tm.getD 92 undef = u92 at e
            generalize tm.getD 93 undef = u93 at e
            generalize tm.getD 94 undef = u94 at e
            generalize tm.getD 95 undef = u95 at e
            generalize tm.getD 96 undef = u96 at e
            generalize tm.getD 97 undef = u97 at e
            generalize tm.getD 98 undef = u98 at e
            generalize tm.getD 99 undef = u99 at e
            generalize tm.getD 100 undef = u100 at e
            generalize tm.getD 101 undef = u101 at e
            generalize tm.getD 102 undef = u102 at e
            generalize tm.getD 103 undef = u103 at e
            generalize tm.getD 104 undef = u104 at e
            generalize tm.getD 105 undef = u105 at e
            generalize tm.getD 106 undef = u106 at e
            generalize tm.getD 107 undef = u107 at e
            generalize tm.getD 108 undef = u108 at e
            generalize tm.getD 109 undef = u109 at e
            generalize tm.getD 110 undef = u110 at e
            generalize tm.getD 111 undef = u111 at e
            generalize tm.getD 112 undef = u112 at e
            generalize tm.getD 113 undef = u113 at e
            generalize tm.getD 114 undef = u114 at e
            generalize tm.getD 115 undef = u115 at e
            generalize tm.getD 116 undef = u116 at e
            generalize tm.getD 117 undef = u117 at e
            generalize tm.getD 118 undef = u118 at e
            generalize tm.getD 119 undef = u119 at e
            generalize tm.getD 120 undef = u120 at e
            generalize tm.getD 121 undef = u121 at e
            generalize tm.getD 122 undef = u122 at e
            generalize tm.getD 123 undef = u123 at e
            generalize tm.getD 124 undef = u124 at e
            generalize tm.getD 125 undef = u125 at e
            generalize tm.getD 126 undef = u126 at e
            generalize tm.getD 127 undef = u127 at e
            generalize tm.getD 128 undef = u128 at e
            generalize tm.getD 129 undef = u129 at e
            generalize tm.getD 130 undef = u130 at e
            generalize tm.getD 131 undef = u131 at e
            generalize tm.getD 132 undef = u132 at e
            generalize tm.getD 133 undef = u133 at e
            generalize tm.getD 134 undef = u134 at e
            generalize tm.getD 135 undef = u135 at e
            generalize tm.getD 136 undef = u136 at e
            generalize tm.getD 137 undef = u137 at e
            generalize tm.getD 138 undef = u138 at e
            subst e
            have T0_w20 := Lib.hid (T0_w19.out.below hqw20)
            have T_w20 := Lib.hid (T_w19.out.below hqw20)
            have T1_w20 := Lib.hid (T1_w19.out.below hqw20)
            have B1_w20 := Lib.hid (B1_w19.out.below hqw20)
            have T2_w20 := Lib.hid (T2_w19.out.below hqw20)
            have B2_w20 := Lib.hid (B2_w19.out.below hqw20)
            have None_w20 := Lib.hid (None_w19.out.below hqw20)
            have z0_w20 : w.heap.size < w20.heap.size := Nat.lt_of_lt_of_le z0_w19 hqw20.size
            have z1_w20 : w10.heap.size < w20.heap.size := Nat.lt_of_lt_of_le z1_w19 hqw20.size
            have z2_w20 : w12.heap.size < w20.heap.size := Nat.lt_of_lt_of_le z2_w19 hqw20.size
            have z3_w20 : w14.heap.size < w20.heap.size := Nat.lt_of_lt_of_le z3_w19 hqw20.size
            have B_w20 := bt B_w19 hqw20
            clear T0_w19 T_w19 T1_w19 B1_w19 T2_w19 B2_w19 None_w19 z0_w19 z1_w19 z2_w19 z3_w19 B_w19 hqw20
            simp only [Exit.then]
            clear o_B2_0 o_B2_1 o_B2_2 o_T0_0 o_T0_1 o_T0_2
            go_wp2_with fail
            go_ret
            exact ⟨rfl, B_w20⟩
end Go.Proofs.Ytnghilcjecjljaa.FdbP
