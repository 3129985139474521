/-
  QueueTells, of a number that is more than 32.
-/
import Derived.Test.YtimpngmmmoaejaaQueueI
import Derived.Deep.Cut
import Derived.Deep.RegionWith
import Derived.BigQuiet
namespace Go.Proofs.Ytimpngmmmoaejaa.ChanP
open Go.RowKit Go.Sort Go.Conc Go.Proofs.Ytimpngmmmoaejaa.SliceP Go.Proofs.Ytimpngmmmoaejaa.BoxP Go.Proofs.Ytimpngmmmoaejaa.StrP
set_option linter.unusedVariables false
set_option maxRecDepth 100000
theorem rest_rowG {W W' : World} {bq oq n cq : Nat} {l ly : List ByteArray} {y : ByteArray} (hT : RowS W (some ⟨bq, oq, none⟩) n cq l) (hly : l = y :: ly) (hB : Below W.heap.size W W') : RowS W' (if cq = 1 then some ⟨bq, oq, none⟩ else some ⟨bq, oq + 1, none⟩) (l.length - 1) (cq - 1) ly := by
  have hT' := hT.below hB
  have hc := hT'.cap
  have hn := hT'.len
  have hlen : l.length = ly.length + 1 := by rw [hly]; rfl
  by_cases h : cq = 1
  · rw [if_pos h]
    obtain rfl : ly = [] := List.length_eq_zero_iff.1 (by omega)
    exact ⟨by rw [hlen]; rfl, Sl.nil, by omega, fun e => by cases e⟩
  · rw [if_neg h]
    have hs := hT'.sl.drop 1
    have e : l.drop 1 = ly := by rw [hly]; rfl
    rw [e] at hs
    exact ⟨by omega, hs, by omega, fun e => by cases e⟩
set_option maxHeartbeats 64000000 in
theorem tells_g (n : Int) (v : Value) (s0 : ByteArray) {w : World} (h : InQ w v) (hs0 : s0.size ≤ 9223372036854775807) (hn1 : ¬ n < 1) (hn2 : 32 < n) :
    Calls Try.prog 3 #[.int .i64 n, v, .string s0] w (IntP.True1 w) := by
  obtain ⟨A0, n0, c0, l0, cap, lost, rfl, hT, hS, hc⟩ := h
  obtain rfl := hT.len
  obtain ⟨w0, hw0⟩ : ∃ W, W = w.alloc (qo cap (.slice A0 l0.length c0) lost) := ⟨_, rfl⟩
  have B0 := Lib.hid (show Below w.heap.size w w0 by rw [hw0]; exact (Below.refl _ _).alloc (Nat.le_refl _) _)
  have Y0 := Lib.hid (show Bx w0 w.heap.size QT #[.int .i64 cap, .slice A0 l0.length c0, .int .i64 lost] by rw [hw0]; exact Bx.new w _ _ rfl)
  have HF := Lib.hid (fun W (hB : Below w0.heap.size w0 W) => few_at cap lost (hT.below (bt B0.out hB)) hS hc)
  clear hT hS hc
  have hnY := Lib.hid (show (decide (1 ≤ n) && decide (n ≤ 32)) = false by simp; omega)
  go_enter Try.func3, Try.ntmps3
  go_upto_region 1 with fail
  rw [← hw0]
  clear hw0
  go_cut [2] from 23 (fun s2 wx => s2 = .string (cutS s0) ∧ QB w cap lost (fewS l0) wx)
  case first =>
    have y0 := Y0.out.c (i := 0) rfl
    have y1 := Y0.out.c (i := 1) rfl
    have y2 := Y0.out.c (i := 2) rfl
    have hyl := Y0.out.lt
    by_cases hq : s0.size ≤ 130
    · have hq1 : (s0.size : Int) ≤ 130 := by omega
      have hq2 : ¬ (130 : Int) < s0.size := by omega
      have hcs := Lib.hid (show cutS s0 = s0 by unfold cutS; rw [if_pos hq])
      go_region_with ((go_at_call 5; (with_reducible refine (HF.out _ (Below.refl _ _).drew).mono ?_); rintro e w1 ⟨A1, c1, rfl, T1, hb1⟩; have b1 := Lib.hid (bt (show Below w0.heap.size w0 w0.drew from (Below.refl _ _).drew) hb1); have Y1 := Lib.hid (Y0.out.below b1.out); have B1 := Lib.hid (bt B0.out b1.out); have hyl0 := Lib.hid Y0.out.lt; replace T1 := Lib.hid T1; obtain ⟨z0, z1, z2⟩ := Bx.c3 Y1.out; have f0 := Y1.out.f 0; have f1 := Y1.out.f 1; have f2 := Y1.out.f 2; have hyl1 := Y1.out.lt; clear hb1 b1))
      all_goals (go_wp2_with fail; go_meet)
      all_goals
        refine ⟨by rw [hcs.out], A1, c1, Y1.out.three, own_row (OwnS.set (OwnS.set (OwnS.set T1.out hyl0.out 0 _) hyl0.out 1 _) hyl0.out 2 _), below3 B1.out (Nat.le_refl _) _ _ _⟩
    · have hq1 : ¬ (s0.size : Int) ≤ 130 := by omega
      have hq2 : (130 : Int) < s0.size := by omega
      have hcs := Lib.hid (show cutS s0 = s0.extract 0 130 by unfold cutS; rw [if_neg hq])
      go_region_with ((go_at_call 5; (with_reducible refine (HF.out _ (Below.refl _ _).drew).mono ?_); rintro e w1 ⟨A1, c1, rfl, T1, hb1⟩; have b1 := Lib.hid (bt (show Below w0.heap.size w0 w0.drew from (Below.refl _ _).drew) hb1); have Y1 := Lib.hid (Y0.out.below b1.out); have B1 := Lib.hid (bt B0.out b1.out); have hyl0 := Lib.hid Y0.out.lt; replace T1 := Lib.hid T1; obtain ⟨z0, z1, z2⟩ := Bx.c3 Y1.out; have f0 := Y1.out.f 0; have f1 := Y1.out.f 1; have f2 := Y1.out.f 2; have hyl1 := Y1.out.lt; clear hb1 b1))
      all_goals (go_wp2_with fail; go_meet)
      all_goals
        refine ⟨by rw [hcs.out], A1, c1, Y1.out.three, own_row (OwnS.set (OwnS.set (OwnS.set T1.out hyl0.out 0 _) hyl0.out 1 _) hyl0.out 2 _), below3 B1.out (Nat.le_refl _) _ _ _⟩
  case rest =>
  obtain ⟨rfl, Aq, cq, Tq, Rq, Bq⟩ := hcut
  have hsz := cutS_size s0
  have hsm := fewS_small l0
  replace Tq := Lib.hid Tq
  replace Rq := Lib.hid Rq
  have zq := Tq.out.lt
  generalize cutS s0 = s at *
  generalize fewS l0 = l at *
  replace hsz := Lib.hid hsz
  replace hsm := Lib.hid hsm
  clear B0 Y0 HF hs0
  cases hr : rightQ cap l lost with
  | false =>
    replace hr := Lib.hid hr
    go_wp2_with fail
    go_at_call 6
    (with_reducible refine (q_new_no n _ hnY.out).mono ?_)
    rintro e w21 ⟨rfl, hb21⟩
    have T0_w21 := Lib.hid (Tq.out.below hb21)
    have T_w21 := Lib.hid (Rq.out.below hb21)
    have z0_w21 : w.heap.size < w21.heap.size := Nat.lt_of_lt_of_le zq hb21.size
    have B_w21 := bt Bq hb21
    clear Tq Rq zq Bq hb21
    have o_T0_0 := T0_w21.out.c (i := 0) rfl
    have o_T0_1 := T0_w21.out.c (i := 1) rfl
    have o_T0_2 := T0_w21.out.c (i := 2) rfl
    go_wp2_with fail
    clear o_T0_0 o_T0_1 o_T0_2
    obtain ⟨w22, hw22⟩ : ∃ W, W = w21.alloc (.cells #[.int .i64 0, .slice none 0 0, .int .i64 0] 24) := ⟨_, rfl⟩
    have bw22 : Below w21.heap.size w21 w22 := by rw [hw22]; exact (Below.refl _ _).alloc (Nat.le_refl _) _
    have Xw22 : Bx w22 w21.heap.size 24 #[.int .i64 0, .slice none 0 0, .int .i64 0] := by rw [hw22]; exact Bx.new _ _ _ rfl
    rw [← hw22]
    clear hw22
    have T0_w22 := Lib.hid (T0_w21.out.below bw22)
    have T_w22 := Lib.hid (T_w21.out.below bw22)
    have BN_w22 := Lib.hid (Xw22)
    have z0_w22 : w.heap.size < w22.heap.size := Nat.lt_of_lt_of_le z0_w21 bw22.size
    have B_w22 := bt B_w21 bw22
    clear T0_w21 T_w21 z0_w21 B_w21 bw22
    have z1_w22 : w21.heap.size < w22.heap.size := Xw22.lt
    clear Xw22
    go_at_call 7
    (with_reducible refine (push_bad s T_w22.out hsm.out hsz.out hr.out).mono ?_)
    rintro e w23 ⟨rfl, hb23⟩
    have T0_w23 := Lib.hid (T0_w22.out.below hb23)
    have T_w23 := Lib.hid (T_w22.out.below hb23)
    have BN_w23 := Lib.hid (BN_w22.out.below hb23)
    have z0_w23 : w.heap.size < w23.heap.size := Nat.lt_of_lt_of_le z0_w22 hb23.size
    have z1_w23 : w21.heap.size < w23.heap.size := Nat.lt_of_lt_of_le z1_w22 hb23.size
    have B_w23 := bt B_w22 hb23
    clear T0_w22 T_w22 BN_w22 z0_w22 z1_w22 B_w22 hb23
    have o_T0_0 := T0_w23.out.c (i := 0) rfl
    have o_T0_1 := T0_w23.out.c (i := 1) rfl
    have o_T0_2 := T0_w23.out.c (i := 2) rfl
    go_wp2_with fail
    clear o_T0_0 o_T0_1 o_T0_2
    obtain ⟨w24, hw24⟩ : ∃ W, W = w23.alloc (.cells #[.int .i64 0, .slice none 0 0, .int .i64 0] 24) := ⟨_, rfl⟩
    have bw24 : Below w23.heap.size w23 w24 := by rw [hw24]; exact (Below.refl _ _).alloc (Nat.le_refl _) _
    have Xw24 : Bx w24 w23.heap.size 24 #[.int .i64 0, .slice none 0 0, .int .i64 0] := by rw [hw24]; exact Bx.new _ _ _ rfl
    rw [← hw24]
    clear hw24
    have T0_w24 := Lib.hid (T0_w23.out.below bw24)
    have T_w24 := Lib.hid (T_w23.out.below bw24)
    have BN_w24 := Lib.hid (BN_w23.out.below bw24)
    have BP_w24 := Lib.hid (Xw24)
    have z0_w24 : w.heap.size < w24.heap.size := Nat.lt_of_lt_of_le z0_w23 bw24.size
    have z1_w24 : w21.heap.size < w24.heap.size := Nat.lt_of_lt_of_le z1_w23 bw24.size
    have B_w24 := bt B_w23 bw24
    clear T0_w23 T_w23 BN_w23 z0_w23 z1_w23 B_w23 bw24
    have z2_w24 : w23.heap.size < w24.heap.size := Xw24.lt
    clear Xw24
    go_at_call 8
    (with_reducible refine (pop_bad T_w24.out hsm.out hr.out).mono ?_)
    rintro e w25 ⟨rfl, hb25⟩
    have T0_w25 := Lib.hid (T0_w24.out.below hb25)
    have T_w25 := Lib.hid (T_w24.out.below hb25)
    have BN_w25 := Lib.hid (BN_w24.out.below hb25)
    have BP_w25 := Lib.hid (BP_w24.out.below hb25)
    have z0_w25 : w.heap.size < w25.heap.size := Nat.lt_of_lt_of_le z0_w24 hb25.size
    have z1_w25 : w21.heap.size < w25.heap.size := Nat.lt_of_lt_of_le z1_w24 hb25.size
    have z2_w25 : w23.heap.size < w25.heap.size := Nat.lt_of_lt_of_le z2_w24 hb25.size
    have B_w25 := bt B_w24 hb25
    clear T0_w24 T_w24 BN_w24 BP_w24 z0_w24 z1_w24 z2_w24 B_w24 hb25
    have o_T0_0 := T0_w25.out.c (i := 0) rfl
    have o_T0_1 := T0_w25.out.c (i := 1) rfl
    have o_T0_2 := T0_w25.out.c (i := 2) rfl
    go_wp2_with fail
    clear o_T0_0 o_T0_1 o_T0_2
    obtain ⟨w26, hw26⟩ : ∃ W, W = w25.alloc (.cells #[.int .i64 0, .slice none 0 0, .int .i64 0] 24) := ⟨_, rfl⟩
    have bw26 : Below w25.heap.size w25 w26 := by rw [hw26]; exact (Below.refl _ _).alloc (Nat.le_refl _) _
    have Xw26 : Bx w26 w25.heap.size 24 #[.int .i64 0, .slice none 0 0, .int .i64 0] := by rw [hw26]; exact Bx.new _ _ _ rfl
    rw [← hw26]
    clear hw26
    have T0_w26 := Lib.hid (T0_w25.out.below bw26)
    have T_w26 := Lib.hid (T_w25.out.below bw26)
    have BN_w26 := Lib.hid (BN_w25.out.below bw26)
    have BP_w26 := Lib.hid (BP_w25.out.below bw26)
    have BO_w26 := Lib.hid (Xw26)
    have z0_w26 : w.heap.size < w26.heap.size := Nat.lt_of_lt_of_le z0_w25 bw26.size
    have z1_w26 : w21.heap.size < w26.heap.size := Nat.lt_of_lt_of_le z1_w25 bw26.size
    have z2_w26 : w23.heap.size < w26.heap.size := Nat.lt_of_lt_of_le z2_w25 bw26.size
    have B_w26 := bt B_w25 bw26
    clear T0_w25 T_w25 BN_w25 BP_w25 z0_w25 z1_w25 z2_w25 B_w25 bw26
    have z3_w26 : w25.heap.size < w26.heap.size := Xw26.lt
    clear Xw26
    go_at_call 9
    (with_reducible refine (clear_bad T_w26.out hsm.out hr.out).mono ?_)
    rintro e w27 ⟨rfl, hb27⟩
    have T0_w27 := Lib.hid (T0_w26.out.below hb27)
    have T_w27 := Lib.hid (T_w26.out.below hb27)
    have BN_w27 := Lib.hid (BN_w26.out.below hb27)
    have BP_w27 := Lib.hid (BP_w26.out.below hb27)
    have BO_w27 := Lib.hid (BO_w26.out.below hb27)
    have z0_w27 : w.heap.size < w27.heap.size := Nat.lt_of_lt_of_le z0_w26 hb27.size
    have z1_w27 : w21.heap.size < w27.heap.size := Nat.lt_of_lt_of_le z1_w26 hb27.size
    have z2_w27 : w23.heap.size < w27.heap.size := Nat.lt_of_lt_of_le z2_w26 hb27.size
    have z3_w27 : w25.heap.size < w27.heap.size := Nat.lt_of_lt_of_le z3_w26 hb27.size
    have B_w27 := bt B_w26 hb27
    clear T0_w26 T_w26 BN_w26 BP_w26 BO_w26 z0_w26 z1_w26 z2_w26 z3_w26 B_w26 hb27
    have o_T0_0 := T0_w27.out.c (i := 0) rfl
    have o_T0_1 := T0_w27.out.c (i := 1) rfl
    have o_T0_2 := T0_w27.out.c (i := 2) rfl
    go_wp2_with fail
    clear o_T0_0 o_T0_1 o_T0_2
    have e16 : w27.heap.size + 1 = (w27.alloc (.cells #[.int .i64 0, .slice none 0 0, .int .i64 0] 24)).heap.size := by simp
    rw [e16]
    clear e16
    obtain ⟨w28, hw28⟩ : ∃ W, W = w27.alloc (.cells #[.int .i64 0, .slice none 0 0, .int .i64 0] 24) := ⟨_, rfl⟩
    have bw28 : Below w27.heap.size w27 w28 := by rw [hw28]; exact (Below.refl _ _).alloc (Nat.le_refl _) _
    have Xw28 : Bx w28 w27.heap.size 24 #[.int .i64 0, .slice none 0 0, .int .i64 0] := by rw [hw28]; exact Bx.new _ _ _ rfl
    rw [← hw28]
    clear hw28
    have T0_w28 := Lib.hid (T0_w27.out.below bw28)
    have T_w28 := Lib.hid (T_w27.out.below bw28)
    have BN_w28 := Lib.hid (BN_w27.out.below bw28)
    have BP_w28 := Lib.hid (BP_w27.out.below bw28)
    have BO_w28 := Lib.hid (BO_w27.out.below bw28)
    have BC_w28 := Lib.hid (Xw28)
    have z0_w28 : w.heap.size < w28.heap.size := Nat.lt_of_lt_of_le z0_w27 bw28.size
    have z1_w28 : w21.heap.size < w28.heap.size := Nat.lt_of_lt_of_le z1_w27 bw28.size
    have z2_w28 : w23.heap.size < w28.heap.size := Nat.lt_of_lt_of_le z2_w27 bw28.size
    have z3_w28 : w25.heap.size < w28.heap.size := Nat.lt_of_lt_of_le z3_w27 bw28.size
    have B_w28 := bt B_w27 bw28
    clear T0_w27 T_w27 BN_w27 BP_w27 BO_w27 z0_w27 z1_w27 z2_w27 z3_w27 B_w27 bw28
    have z4_w28 : w27.heap.size < w28.heap.size := Xw28.lt
    clear Xw28
    obtain ⟨w29, hw29⟩ : ∃ W, W = w28.alloc (.cells #[.int .i64 0, .slice none 0 0, .int .i64 0] 24) := ⟨_, rfl⟩
    have bw29 : Below w28.heap.size w28 w29 := by rw [hw29]; exact (Below.refl _ _).alloc (Nat.le_refl _) _
    have Xw29 : Bx w29 w28.heap.size 24 #[.int .i64 0, .slice none 0 0, .int .i64 0] := by rw [hw29]; exact Bx.new _ _ _ rfl
    rw [← hw29]
    clear hw29
    have T0_w29 := Lib.hid (T0_w28.out.below bw29)
    have T_w29 := Lib.hid (T_w28.out.below bw29)
    have BN_w29 := Lib.hid (BN_w28.out.below bw29)
    have BP_w29 := Lib.hid (BP_w28.out.below bw29)
    have BO_w29 := Lib.hid (BO_w28.out.below bw29)
    have BC_w29 := Lib.hid (BC_w28.out.below bw29)
    have NONE_w29 := Lib.hid (Xw29)
    have z0_w29 : w.heap.size < w29.heap.size := Nat.lt_of_lt_of_le z0_w28 bw29.size
    have z1_w29 : w21.heap.size < w29.heap.size := Nat.lt_of_lt_of_le z1_w28 bw29.size
    have z2_w29 : w23.heap.size < w29.heap.size := Nat.lt_of_lt_of_le z2_w28 bw29.size
    have z3_w29 : w25.heap.size < w29.heap.size := Nat.lt_of_lt_of_le z3_w28 bw29.size
    have z4_w29 : w27.heap.size < w29.heap.size := Nat.lt_of_lt_of_le z4_w28 bw29.size
    have B_w29 := bt B_w28 bw29
    clear T0_w28 T_w28 BN_w28 BP_w28 BO_w28 BC_w28 z0_w28 z1_w28 z2_w28 z3_w28 z4_w28 B_w28 bw29
    have z5_w29 : w28.heap.size < w29.heap.size := Xw29.lt
    clear Xw29
    have K_T0_0 := cell_regrown (T0_w29.out.c (i := 0) rfl)
    have K_T0_1 := cell_regrown (T0_w29.out.c (i := 1) rfl)
    have K_T0_2 := cell_regrown (T0_w29.out.c (i := 2) rfl)
    have cC0 := fun (d : Nat) (os : Array Obj) => Calls.regrown_of (right_b (T_w29.out.below (below_regrown w29 d os)) hsm.out hr.out)
    have cC1 := fun (d : Nat) (os : Array Obj) => Calls.regrown_of (r_right_b (T_w29.out.below (below_regrown w29 d os)) hsm.out hr.out)
    have cC2 := fun (d : Nat) (os : Array Obj) => Calls.regrown_of (alive_any (Go.Sort.grow (redrawn w29 d) os))
    refine wp_region_quiet_below (by kernel_rfl) (by kernel_rfl) ?_
    repeat (first | go_big_quiet_step (first | with_reducible exact cC0 _ _ | with_reducible exact cC1 _ _ | with_reducible exact cC2 _ _) | quiet_step (first | with_reducible exact cC0 _ _ | with_reducible exact cC1 _ _ | with_reducible exact cC2 _ _))
    refine wpQuiet_nil ?_
    intro _ hw'
    obtain ⟨⟨dq, osq⟩, hw''⟩ := hw'
    subst hw''
    have hqw30 := below_regrown w29 dq osq
    clear K_T0_0 K_T0_1 K_T0_2 cC0 cC1 cC2
    generalize Go.Sort.grow (redrawn w29 dq) osq = w30 at *
    have T0_w30 := Lib.hid (T0_w29.out.below hqw30)
    have T_w30 := Lib.hid (T_w29.out.below hqw30)
    have BN_w30 := Lib.hid (BN_w29.out.below hqw30)
    have BP_w30 := Lib.hid (BP_w29.out.below hqw30)
    have BO_w30 := Lib.hid (BO_w29.out.below hqw30)
    have BC_w30 := Lib.hid (BC_w29.out.below hqw30)
    have NONE_w30 := Lib.hid (NONE_w29.out.below hqw30)
    have z0_w30 : w.heap.size < w30.heap.size := Nat.lt_of_lt_of_le z0_w29 hqw30.size
    have z1_w30 : w21.heap.size < w30.heap.size := Nat.lt_of_lt_of_le z1_w29 hqw30.size
    have z2_w30 : w23.heap.size < w30.heap.size := Nat.lt_of_lt_of_le z2_w29 hqw30.size
    have z3_w30 : w25.heap.size < w30.heap.size := Nat.lt_of_lt_of_le z3_w29 hqw30.size
    have z4_w30 : w27.heap.size < w30.heap.size := Nat.lt_of_lt_of_le z4_w29 hqw30.size
    have z5_w30 : w28.heap.size < w30.heap.size := Nat.lt_of_lt_of_le z5_w29 hqw30.size
    have B_w30 := bt B_w29 hqw30
    clear T0_w29 T_w29 BN_w29 BP_w29 BO_w29 BC_w29 NONE_w29 z0_w29 z1_w29 z2_w29 z3_w29 z4_w29 z5_w29 B_w29 hqw30
    have o_BN_0 := BN_w30.out.c (i := 0) rfl
    have o_BN_1 := BN_w30.out.c (i := 1) rfl
    have o_BN_2 := BN_w30.out.c (i := 2) rfl
    have o_NONE_0 := NONE_w30.out.c (i := 0) rfl
    have o_NONE_1 := NONE_w30.out.c (i := 1) rfl
    have o_NONE_2 := NONE_w30.out.c (i := 2) rfl
    go_wp2_with fail
    clear o_BN_0 o_BN_1 o_BN_2 o_NONE_0 o_NONE_1 o_NONE_2
    go_at_call 13
    (with_reducible refine (r_same 0 0 (RowS.empty _) (RowS.empty _) (by simp)).mono ?_)
    rintro e w31 ⟨rfl, hb31⟩
    have T0_w31 := Lib.hid (T0_w30.out.below hb31)
    have T_w31 := Lib.hid (T_w30.out.below hb31)
    have BN_w31 := Lib.hid (BN_w30.out.below hb31)
    have BP_w31 := Lib.hid (BP_w30.out.below hb31)
    have BO_w31 := Lib.hid (BO_w30.out.below hb31)
    have BC_w31 := Lib.hid (BC_w30.out.below hb31)
    have NONE_w31 := Lib.hid (NONE_w30.out.below hb31)
    have z0_w31 : w.heap.size < w31.heap.size := Nat.lt_of_lt_of_le z0_w30 hb31.size
    have z1_w31 : w21.heap.size < w31.heap.size := Nat.lt_of_lt_of_le z1_w30 hb31.size
    have z2_w31 : w23.heap.size < w31.heap.size := Nat.lt_of_lt_of_le z2_w30 hb31.size
    have z3_w31 : w25.heap.size < w31.heap.size := Nat.lt_of_lt_of_le z3_w30 hb31.size
    have z4_w31 : w27.heap.size < w31.heap.size := Nat.lt_of_lt_of_le z4_w30 hb31.size
    have z5_w31 : w28.heap.size < w31.heap.size := Nat.lt_of_lt_of_le z5_w30 hb31.size
    have B_w31 := bt B_w30 hb31
    clear T0_w30 T_w30 BN_w30 BP_w30 BO_w30 BC_w30 NONE_w30 z0_w30 z1_w30 z2_w30 z3_w30 z4_w30 z5_w30 B_w30 hb31
    have o_T0_0 := T0_w31.out.c (i := 0) rfl
    have o_T0_1 := T0_w31.out.c (i := 1) rfl
    have o_T0_2 := T0_w31.out.c (i := 2) rfl
    go_wp2_with fail
    clear o_T0_0 o_T0_1 o_T0_2
    go_at_call 11
    (with_reducible refine (r_right_b T_w31.out hsm.out hr.out).mono ?_)
    rintro e w32 ⟨rfl, hb32⟩
    have T0_w32 := Lib.hid (T0_w31.out.below hb32)
    have T_w32 := Lib.hid (T_w31.out.below hb32)
    have BN_w32 := Lib.hid (BN_w31.out.below hb32)
    have BP_w32 := Lib.hid (BP_w31.out.below hb32)
    have BO_w32 := Lib.hid (BO_w31.out.below hb32)
    have BC_w32 := Lib.hid (BC_w31.out.below hb32)
    have NONE_w32 := Lib.hid (NONE_w31.out.below hb32)
    have z0_w32 : w.heap.size < w32.heap.size := Nat.lt_of_lt_of_le z0_w31 hb32.size
    have z1_w32 : w21.heap.size < w32.heap.size := Nat.lt_of_lt_of_le z1_w31 hb32.size
    have z2_w32 : w23.heap.size < w32.heap.size := Nat.lt_of_lt_of_le z2_w31 hb32.size
    have z3_w32 : w25.heap.size < w32.heap.size := Nat.lt_of_lt_of_le z3_w31 hb32.size
    have z4_w32 : w27.heap.size < w32.heap.size := Nat.lt_of_lt_of_le z4_w31 hb32.size
    have z5_w32 : w28.heap.size < w32.heap.size := Nat.lt_of_lt_of_le z5_w31 hb32.size
    have B_w32 := bt B_w31 hb32
    clear T0_w31 T_w31 BN_w31 BP_w31 BO_w31 BC_w31 NONE_w31 z0_w31 z1_w31 z2_w31 z3_w31 z4_w31 z5_w31 B_w31 hb32
    have o_BP_0 := BP_w32.out.c (i := 0) rfl
    have o_BP_1 := BP_w32.out.c (i := 1) rfl
    have o_BP_2 := BP_w32.out.c (i := 2) rfl
    have o_NONE_0 := NONE_w32.out.c (i := 0) rfl
    have o_NONE_1 := NONE_w32.out.c (i := 1) rfl
    have o_NONE_2 := NONE_w32.out.c (i := 2) rfl
    go_wp2_with fail
    clear o_BP_0 o_BP_1 o_BP_2 o_NONE_0 o_NONE_1 o_NONE_2
    go_at_call 13
    (with_reducible refine (r_same 0 0 (RowS.empty _) (RowS.empty _) (by simp)).mono ?_)
    rintro e w33 ⟨rfl, hb33⟩
    have T0_w33 := Lib.hid (T0_w32.out.below hb33)
    have T_w33 := Lib.hid (T_w32.out.below hb33)
    have BN_w33 := Lib.hid (BN_w32.out.below hb33)
    have BP_w33 := Lib.hid (BP_w32.out.below hb33)
    have BO_w33 := Lib.hid (BO_w32.out.below hb33)
    have BC_w33 := Lib.hid (BC_w32.out.below hb33)
    have NONE_w33 := Lib.hid (NONE_w32.out.below hb33)
    have z0_w33 : w.heap.size < w33.heap.size := Nat.lt_of_lt_of_le z0_w32 hb33.size
    have z1_w33 : w21.heap.size < w33.heap.size := Nat.lt_of_lt_of_le z1_w32 hb33.size
    have z2_w33 : w23.heap.size < w33.heap.size := Nat.lt_of_lt_of_le z2_w32 hb33.size
    have z3_w33 : w25.heap.size < w33.heap.size := Nat.lt_of_lt_of_le z3_w32 hb33.size
    have z4_w33 : w27.heap.size < w33.heap.size := Nat.lt_of_lt_of_le z4_w32 hb33.size
    have z5_w33 : w28.heap.size < w33.heap.size := Nat.lt_of_lt_of_le z5_w32 hb33.size
    have B_w33 := bt B_w32 hb33
    clear T0_w32 T_w32 BN_w32 BP_w32 BO_w32 BC_w32 NONE_w32 z0_w32 z1_w32 z2_w32 z3_w32 z4_w32 z5_w32 B_w32 hb33
    have o_BO_0 := BO_w33.out.c (i := 0) rfl
    have o_BO_1 := BO_w33.out.c (i := 1) rfl
    have o_BO_2 := BO_w33.out.c (i := 2) rfl
    have o_NONE_0 := NONE_w33.out.c (i := 0) rfl
    have o_NONE_1 := NONE_w33.out.c (i := 1) rfl
    have o_NONE_2 := NONE_w33.out.c (i := 2) rfl
    go_wp2_with fail
    clear o_BO_0 o_BO_1 o_BO_2 o_NONE_0 o_NONE_1 o_NONE_2
    go_at_call 13
    (with_reducible refine (r_same 0 0 (RowS.empty _) (RowS.empty _) (by simp)).mono ?_)
    rintro e w34 ⟨rfl, hb34⟩
    have T0_w34 := Lib.hid (T0_w33.out.below hb34)
    have T_w34 := Lib.hid (T_w33.out.below hb34)
    have BN_w34 := Lib.hid (BN_w33.out.below hb34)
    have BP_w34 := Lib.hid (BP_w33.out.below hb34)
    have BO_w34 := Lib.hid (BO_w33.out.below hb34)
    have BC_w34 := Lib.hid (BC_w33.out.below hb34)
    have NONE_w34 := Lib.hid (NONE_w33.out.below hb34)
    have z0_w34 : w.heap.size < w34.heap.size := Nat.lt_of_lt_of_le z0_w33 hb34.size
    have z1_w34 : w21.heap.size < w34.heap.size := Nat.lt_of_lt_of_le z1_w33 hb34.size
    have z2_w34 : w23.heap.size < w34.heap.size := Nat.lt_of_lt_of_le z2_w33 hb34.size
    have z3_w34 : w25.heap.size < w34.heap.size := Nat.lt_of_lt_of_le z3_w33 hb34.size
    have z4_w34 : w27.heap.size < w34.heap.size := Nat.lt_of_lt_of_le z4_w33 hb34.size
    have z5_w34 : w28.heap.size < w34.heap.size := Nat.lt_of_lt_of_le z5_w33 hb34.size
    have B_w34 := bt B_w33 hb34
    clear T0_w33 T_w33 BN_w33 BP_w33 BO_w33 BC_w33 NONE_w33 z0_w33 z1_w33 z2_w33 z3_w33 z4_w33 z5_w33 B_w33 hb34
    have o_BC_0 := BC_w34.out.c (i := 0) rfl
    have o_BC_1 := BC_w34.out.c (i := 1) rfl
    have o_BC_2 := BC_w34.out.c (i := 2) rfl
    have o_NONE_0 := NONE_w34.out.c (i := 0) rfl
    have o_NONE_1 := NONE_w34.out.c (i := 1) rfl
    have o_NONE_2 := NONE_w34.out.c (i := 2) rfl
    go_wp2_with fail
    clear o_BC_0 o_BC_1 o_BC_2 o_NONE_0 o_NONE_1 o_NONE_2
    go_at_call 13
    (with_reducible refine (r_same 0 0 (RowS.empty _) (RowS.empty _) (by simp)).mono ?_)
    rintro e w35 ⟨rfl, hb35⟩
    have T0_w35 := Lib.hid (T0_w34.out.below hb35)
    have T_w35 := Lib.hid (T_w34.out.below hb35)
    have BN_w35 := Lib.hid (BN_w34.out.below hb35)
    have BP_w35 := Lib.hid (BP_w34.out.below hb35)
    have BO_w35 := Lib.hid (BO_w34.out.below hb35)
    have BC_w35 := Lib.hid (BC_w34.out.below hb35)
    have NONE_w35 := Lib.hid (NONE_w34.out.below hb35)
    have z0_w35 : w.heap.size < w35.heap.size := Nat.lt_of_lt_of_le z0_w34 hb35.size
    have z1_w35 : w21.heap.size < w35.heap.size := Nat.lt_of_lt_of_le z1_w34 hb35.size
    have z2_w35 : w23.heap.size < w35.heap.size := Nat.lt_of_lt_of_le z2_w34 hb35.size
    have z3_w35 : w25.heap.size < w35.heap.size := Nat.lt_of_lt_of_le z3_w34 hb35.size
    have z4_w35 : w27.heap.size < w35.heap.size := Nat.lt_of_lt_of_le z4_w34 hb35.size
    have z5_w35 : w28.heap.size < w35.heap.size := Nat.lt_of_lt_of_le z5_w34 hb35.size
    have B_w35 := bt B_w34 hb35
    clear T0_w34 T_w34 BN_w34 BP_w34 BO_w34 BC_w34 NONE_w34 z0_w34 z1_w34 z2_w34 z3_w34 z4_w34 z5_w34 B_w34 hb35
    go_wp2_with fail
    go_ret
    exact ⟨rfl, B_w35⟩
  | true =>
    have hlo := Lib.hid (lost_in hr)
    obtain ⟨cx, lx, ox, isx, ex, cP, hP1, hP⟩ := says_push s hsm.out hsz.out hr
    obtain ⟨cy, ly, oy, y, ey, cO, hO1, hO⟩ := says_pop hsm.out hr
    replace hr := Lib.hid hr
    replace cP := Lib.hid cP
    replace cO := Lib.hid cO
    replace hP := Lib.hid hP
    replace hO := Lib.hid hO
    replace hP1 := Lib.hid hP1
    replace hO1 := Lib.hid hO1
    obtain ⟨om, hom⟩ : ∃ m, m = min (lost + (l.length : Int)) 1000000 := ⟨_, rfl⟩
    have cC := Lib.hid (fun A n c W (hT : RowS W A n c l) => (by have := clear_ok hT hsm.out hr.out; rwa [← hom] at this : Calls Try.prog 9 #[qv cap (.slice A n c) lost] W fun e w' => e = .returned (.tuple #[qv cap (.slice none 0 0) om, .int .i64 l.length, .int .i64 0]) ∧ Below W.heap.size W w'))
    have rC := Lib.hid (fun A n c W (hT : RowS W A n c l) => (by have := r_clear cap lost hT (by have := hsm.out.1; omega) hlo.out.1 hlo.out.2; rwa [← hom] at this : Calls Try.prog 14 #[qv cap (.slice A n c) lost] W fun e w' => e = .returned (.tuple #[qv cap (.slice none 0 0) om, .int .i64 l.length]) ∧ Below W.heap.size W w'))
    replace hom := Lib.hid hom
    go_wp2_with fail
    go_at_call 6
    (with_reducible refine (q_new_no n _ hnY.out).mono ?_)
    rintro e w21 ⟨rfl, hb21⟩
    have T0_w21 := Lib.hid (Tq.out.below hb21)
    have T_w21 := Lib.hid (Rq.out.below hb21)
    have z0_w21 : w.heap.size < w21.heap.size := Nat.lt_of_lt_of_le zq hb21.size
    have B_w21 := bt Bq hb21
    clear Tq Rq zq Bq hb21
    have o_T0_0 := T0_w21.out.c (i := 0) rfl
    have o_T0_1 := T0_w21.out.c (i := 1) rfl
    have o_T0_2 := T0_w21.out.c (i := 2) rfl
    go_wp2_with fail
    clear o_T0_0 o_T0_1 o_T0_2
    obtain ⟨w22, hw22⟩ : ∃ W, W = w21.alloc (.cells #[.int .i64 0, .slice none 0 0, .int .i64 0] 24) := ⟨_, rfl⟩
    have bw22 : Below w21.heap.size w21 w22 := by rw [hw22]; exact (Below.refl _ _).alloc (Nat.le_refl _) _
    have Xw22 : Bx w22 w21.heap.size 24 #[.int .i64 0, .slice none 0 0, .int .i64 0] := by rw [hw22]; exact Bx.new _ _ _ rfl
    rw [← hw22]
    clear hw22
    have T0_w22 := Lib.hid (T0_w21.out.below bw22)
    have T_w22 := Lib.hid (T_w21.out.below bw22)
    have BN_w22 := Lib.hid (Xw22)
    have z0_w22 : w.heap.size < w22.heap.size := Nat.lt_of_lt_of_le z0_w21 bw22.size
    have B_w22 := bt B_w21 bw22
    clear T0_w21 T_w21 z0_w21 B_w21 bw22
    have z1_w22 : w21.heap.size < w22.heap.size := Xw22.lt
    clear Xw22
    go_at_call 7
    (with_reducible refine (cP.out _ _ _ _ T_w22.out).mono ?_)
    rintro e w23 ⟨AP, cp, rfl, TP, hb23⟩
    have T0_w23 := Lib.hid (T0_w22.out.below hb23)
    have T_w23 := Lib.hid (T_w22.out.below hb23)
    have BN_w23 := Lib.hid (BN_w22.out.below hb23)
    have TP_w23 := Lib.hid (own_row TP)
    have z0_w23 : w.heap.size < w23.heap.size := Nat.lt_of_lt_of_le z0_w22 hb23.size
    have z1_w23 : w21.heap.size < w23.heap.size := Nat.lt_of_lt_of_le z1_w22 hb23.size
    have B_w23 := bt B_w22 hb23
    clear T0_w22 T_w22 BN_w22 z0_w22 z1_w22 B_w22 hb23
    clear TP
    have o_T0_0 := T0_w23.out.c (i := 0) rfl
    have o_T0_1 := T0_w23.out.c (i := 1) rfl
    have o_T0_2 := T0_w23.out.c (i := 2) rfl
    go_wp2_with fail
    clear o_T0_0 o_T0_1 o_T0_2
    obtain ⟨w24, hw24⟩ : ∃ W, W = w23.alloc (.cells #[.int .i64 cx, .slice AP lx.length cp, .int .i64 ox] 24) := ⟨_, rfl⟩
    have bw24 : Below w23.heap.size w23 w24 := by rw [hw24]; exact (Below.refl _ _).alloc (Nat.le_refl _) _
    have Xw24 : Bx w24 w23.heap.size 24 #[.int .i64 cx, .slice AP lx.length cp, .int .i64 ox] := by rw [hw24]; exact Bx.new _ _ _ rfl
    rw [← hw24]
    clear hw24
    have T0_w24 := Lib.hid (T0_w23.out.below bw24)
    have T_w24 := Lib.hid (T_w23.out.below bw24)
    have BN_w24 := Lib.hid (BN_w23.out.below bw24)
    have TP_w24 := Lib.hid (TP_w23.out.below bw24)
    have BP_w24 := Lib.hid (Xw24)
    have z0_w24 : w.heap.size < w24.heap.size := Nat.lt_of_lt_of_le z0_w23 bw24.size
    have z1_w24 : w21.heap.size < w24.heap.size := Nat.lt_of_lt_of_le z1_w23 bw24.size
    have B_w24 := bt B_w23 bw24
    clear T0_w23 T_w23 BN_w23 TP_w23 z0_w23 z1_w23 B_w23 bw24
    have z2_w24 : w23.heap.size < w24.heap.size := Xw24.lt
    clear Xw24
    go_at_call 8
    (with_reducible refine (cO.out _ _ _ _ T_w24.out).mono ?_)
    rintro e w25 ⟨AO, co, rfl, TO, hb25⟩
    have T0_w25 := Lib.hid (T0_w24.out.below hb25)
    have T_w25 := Lib.hid (T_w24.out.below hb25)
    have BN_w25 := Lib.hid (BN_w24.out.below hb25)
    have TP_w25 := Lib.hid (TP_w24.out.below hb25)
    have BP_w25 := Lib.hid (BP_w24.out.below hb25)
    have TO_w25 := Lib.hid (own_row TO)
    have z0_w25 : w.heap.size < w25.heap.size := Nat.lt_of_lt_of_le z0_w24 hb25.size
    have z1_w25 : w21.heap.size < w25.heap.size := Nat.lt_of_lt_of_le z1_w24 hb25.size
    have z2_w25 : w23.heap.size < w25.heap.size := Nat.lt_of_lt_of_le z2_w24 hb25.size
    have B_w25 := bt B_w24 hb25
    clear T0_w24 T_w24 BN_w24 TP_w24 BP_w24 z0_w24 z1_w24 z2_w24 B_w24 hb25
    clear TO
    have o_T0_0 := T0_w25.out.c (i := 0) rfl
    have o_T0_1 := T0_w25.out.c (i := 1) rfl
    have o_T0_2 := T0_w25.out.c (i := 2) rfl
    go_wp2_with fail
    clear o_T0_0 o_T0_1 o_T0_2
    obtain ⟨w26, hw26⟩ : ∃ W, W = w25.alloc (.cells #[.int .i64 cy, .slice AO ly.length co, .int .i64 oy] 24) := ⟨_, rfl⟩
    have bw26 : Below w25.heap.size w25 w26 := by rw [hw26]; exact (Below.refl _ _).alloc (Nat.le_refl _) _
    have Xw26 : Bx w26 w25.heap.size 24 #[.int .i64 cy, .slice AO ly.length co, .int .i64 oy] := by rw [hw26]; exact Bx.new _ _ _ rfl
    rw [← hw26]
    clear hw26
    have T0_w26 := Lib.hid (T0_w25.out.below bw26)
    have T_w26 := Lib.hid (T_w25.out.below bw26)
    have BN_w26 := Lib.hid (BN_w25.out.below bw26)
    have TP_w26 := Lib.hid (TP_w25.out.below bw26)
    have BP_w26 := Lib.hid (BP_w25.out.below bw26)
    have TO_w26 := Lib.hid (TO_w25.out.below bw26)
    have BO_w26 := Lib.hid (Xw26)
    have z0_w26 : w.heap.size < w26.heap.size := Nat.lt_of_lt_of_le z0_w25 bw26.size
    have z1_w26 : w21.heap.size < w26.heap.size := Nat.lt_of_lt_of_le z1_w25 bw26.size
    have z2_w26 : w23.heap.size < w26.heap.size := Nat.lt_of_lt_of_le z2_w25 bw26.size
    have B_w26 := bt B_w25 bw26
    clear T0_w25 T_w25 BN_w25 TP_w25 BP_w25 TO_w25 z0_w25 z1_w25 z2_w25 B_w25 bw26
    have z3_w26 : w25.heap.size < w26.heap.size := Xw26.lt
    clear Xw26
    go_at_call 9
    (with_reducible refine (cC.out _ _ _ _ T_w26.out).mono ?_)
    rintro e w27 ⟨rfl, hb27⟩
    have T0_w27 := Lib.hid (T0_w26.out.below hb27)
    have T_w27 := Lib.hid (T_w26.out.below hb27)
    have BN_w27 := Lib.hid (BN_w26.out.below hb27)
    have TP_w27 := Lib.hid (TP_w26.out.below hb27)
    have BP_w27 := Lib.hid (BP_w26.out.below hb27)
    have TO_w27 := Lib.hid (TO_w26.out.below hb27)
    have BO_w27 := Lib.hid (BO_w26.out.below hb27)
    have z0_w27 : w.heap.size < w27.heap.size := Nat.lt_of_lt_of_le z0_w26 hb27.size
    have z1_w27 : w21.heap.size < w27.heap.size := Nat.lt_of_lt_of_le z1_w26 hb27.size
    have z2_w27 : w23.heap.size < w27.heap.size := Nat.lt_of_lt_of_le z2_w26 hb27.size
    have z3_w27 : w25.heap.size < w27.heap.size := Nat.lt_of_lt_of_le z3_w26 hb27.size
    have B_w27 := bt B_w26 hb27
    clear T0_w26 T_w26 BN_w26 TP_w26 BP_w26 TO_w26 BO_w26 z0_w26 z1_w26 z2_w26 z3_w26 B_w26 hb27
    have o_T0_0 := T0_w27.out.c (i := 0) rfl
    have o_T0_1 := T0_w27.out.c (i := 1) rfl
    have o_T0_2 := T0_w27.out.c (i := 2) rfl
    go_wp2_with fail
    clear o_T0_0 o_T0_1 o_T0_2
    have e16 : w27.heap.size + 1 = (w27.alloc (.cells #[.int .i64 cap, .slice none 0 0, .int .i64 om] 24)).heap.size := by simp
    rw [e16]
    clear e16
    obtain ⟨w28, hw28⟩ : ∃ W, W = w27.alloc (.cells #[.int .i64 cap, .slice none 0 0, .int .i64 om] 24) := ⟨_, rfl⟩
    have bw28 : Below w27.heap.size w27 w28 := by rw [hw28]; exact (Below.refl _ _).alloc (Nat.le_refl _) _
    have Xw28 : Bx w28 w27.heap.size 24 #[.int .i64 cap, .slice none 0 0, .int .i64 om] := by rw [hw28]; exact Bx.new _ _ _ rfl
    rw [← hw28]
    clear hw28
    have T0_w28 := Lib.hid (T0_w27.out.below bw28)
    have T_w28 := Lib.hid (T_w27.out.below bw28)
    have BN_w28 := Lib.hid (BN_w27.out.below bw28)
    have TP_w28 := Lib.hid (TP_w27.out.below bw28)
    have BP_w28 := Lib.hid (BP_w27.out.below bw28)
    have TO_w28 := Lib.hid (TO_w27.out.below bw28)
    have BO_w28 := Lib.hid (BO_w27.out.below bw28)
    have BC_w28 := Lib.hid (Xw28)
    have z0_w28 : w.heap.size < w28.heap.size := Nat.lt_of_lt_of_le z0_w27 bw28.size
    have z1_w28 : w21.heap.size < w28.heap.size := Nat.lt_of_lt_of_le z1_w27 bw28.size
    have z2_w28 : w23.heap.size < w28.heap.size := Nat.lt_of_lt_of_le z2_w27 bw28.size
    have z3_w28 : w25.heap.size < w28.heap.size := Nat.lt_of_lt_of_le z3_w27 bw28.size
    have B_w28 := bt B_w27 bw28
    clear T0_w27 T_w27 BN_w27 TP_w27 BP_w27 TO_w27 BO_w27 z0_w27 z1_w27 z2_w27 z3_w27 B_w27 bw28
    have z4_w28 : w27.heap.size < w28.heap.size := Xw28.lt
    clear Xw28
    obtain ⟨w29, hw29⟩ : ∃ W, W = w28.alloc (.cells #[.int .i64 0, .slice none 0 0, .int .i64 0] 24) := ⟨_, rfl⟩
    have bw29 : Below w28.heap.size w28 w29 := by rw [hw29]; exact (Below.refl _ _).alloc (Nat.le_refl _) _
    have Xw29 : Bx w29 w28.heap.size 24 #[.int .i64 0, .slice none 0 0, .int .i64 0] := by rw [hw29]; exact Bx.new _ _ _ rfl
    rw [← hw29]
    clear hw29
    have T0_w29 := Lib.hid (T0_w28.out.below bw29)
    have T_w29 := Lib.hid (T_w28.out.below bw29)
    have BN_w29 := Lib.hid (BN_w28.out.below bw29)
    have TP_w29 := Lib.hid (TP_w28.out.below bw29)
    have BP_w29 := Lib.hid (BP_w28.out.below bw29)
    have TO_w29 := Lib.hid (TO_w28.out.below bw29)
    have BO_w29 := Lib.hid (BO_w28.out.below bw29)
    have BC_w29 := Lib.hid (BC_w28.out.below bw29)
    have NONE_w29 := Lib.hid (Xw29)
    have z0_w29 : w.heap.size < w29.heap.size := Nat.lt_of_lt_of_le z0_w28 bw29.size
    have z1_w29 : w21.heap.size < w29.heap.size := Nat.lt_of_lt_of_le z1_w28 bw29.size
    have z2_w29 : w23.heap.size < w29.heap.size := Nat.lt_of_lt_of_le z2_w28 bw29.size
    have z3_w29 : w25.heap.size < w29.heap.size := Nat.lt_of_lt_of_le z3_w28 bw29.size
    have z4_w29 : w27.heap.size < w29.heap.size := Nat.lt_of_lt_of_le z4_w28 bw29.size
    have B_w29 := bt B_w28 bw29
    clear T0_w28 T_w28 BN_w28 TP_w28 BP_w28 TO_w28 BO_w28 BC_w28 z0_w28 z1_w28 z2_w28 z3_w28 z4_w28 B_w28 bw29
    have z5_w29 : w28.heap.size < w29.heap.size := Xw29.lt
    clear Xw29
    have K_T0_0 := cell_regrown (T0_w29.out.c (i := 0) rfl)
    have K_T0_1 := cell_regrown (T0_w29.out.c (i := 1) rfl)
    have K_T0_2 := cell_regrown (T0_w29.out.c (i := 2) rfl)
    have cC0 := fun (d : Nat) (os : Array Obj) => Calls.regrown_of (right_b (T_w29.out.below (below_regrown w29 d os)) hsm.out hr.out)
    have cC1 := fun (d : Nat) (os : Array Obj) => Calls.regrown_of (r_right_b (T_w29.out.below (below_regrown w29 d os)) hsm.out hr.out)
    have cC2 := fun (d : Nat) (os : Array Obj) => Calls.regrown_of (alive_any (Go.Sort.grow (redrawn w29 d) os))
    refine wp_region_quiet_below (by kernel_rfl) (by kernel_rfl) ?_
    repeat (first | go_big_quiet_step (first | with_reducible exact cC0 _ _ | with_reducible exact cC1 _ _ | with_reducible exact cC2 _ _) | quiet_step (first | with_reducible exact cC0 _ _ | with_reducible exact cC1 _ _ | with_reducible exact cC2 _ _))
    refine wpQuiet_nil ?_
    intro _ hw'
    obtain ⟨⟨dq, osq⟩, hw''⟩ := hw'
    subst hw''
    have hqw30 := below_regrown w29 dq osq
    clear K_T0_0 K_T0_1 K_T0_2 cC0 cC1 cC2
    generalize Go.Sort.grow (redrawn w29 dq) osq = w30 at *
    have T0_w30 := Lib.hid (T0_w29.out.below hqw30)
    have T_w30 := Lib.hid (T_w29.out.below hqw30)
    have BN_w30 := Lib.hid (BN_w29.out.below hqw30)
    have TP_w30 := Lib.hid (TP_w29.out.below hqw30)
    have BP_w30 := Lib.hid (BP_w29.out.below hqw30)
    have TO_w30 := Lib.hid (TO_w29.out.below hqw30)
    have BO_w30 := Lib.hid (BO_w29.out.below hqw30)
    have BC_w30 := Lib.hid (BC_w29.out.below hqw30)
    have NONE_w30 := Lib.hid (NONE_w29.out.below hqw30)
    have z0_w30 : w.heap.size < w30.heap.size := Nat.lt_of_lt_of_le z0_w29 hqw30.size
    have z1_w30 : w21.heap.size < w30.heap.size := Nat.lt_of_lt_of_le z1_w29 hqw30.size
    have z2_w30 : w23.heap.size < w30.heap.size := Nat.lt_of_lt_of_le z2_w29 hqw30.size
    have z3_w30 : w25.heap.size < w30.heap.size := Nat.lt_of_lt_of_le z3_w29 hqw30.size
    have z4_w30 : w27.heap.size < w30.heap.size := Nat.lt_of_lt_of_le z4_w29 hqw30.size
    have z5_w30 : w28.heap.size < w30.heap.size := Nat.lt_of_lt_of_le z5_w29 hqw30.size
    have B_w30 := bt B_w29 hqw30
    clear T0_w29 T_w29 BN_w29 TP_w29 BP_w29 TO_w29 BO_w29 BC_w29 NONE_w29 z0_w29 z1_w29 z2_w29 z3_w29 z4_w29 z5_w29 B_w29 hqw30
    have o_BN_0 := BN_w30.out.c (i := 0) rfl
    have o_BN_1 := BN_w30.out.c (i := 1) rfl
    have o_BN_2 := BN_w30.out.c (i := 2) rfl
    have o_NONE_0 := NONE_w30.out.c (i := 0) rfl
    have o_NONE_1 := NONE_w30.out.c (i := 1) rfl
    have o_NONE_2 := NONE_w30.out.c (i := 2) rfl
    go_wp2_with fail
    clear o_BN_0 o_BN_1 o_BN_2 o_NONE_0 o_NONE_1 o_NONE_2
    go_at_call 13
    (with_reducible refine (r_same 0 0 (RowS.empty _) (RowS.empty _) (by simp)).mono ?_)
    rintro e w31 ⟨rfl, hb31⟩
    have T0_w31 := Lib.hid (T0_w30.out.below hb31)
    have T_w31 := Lib.hid (T_w30.out.below hb31)
    have BN_w31 := Lib.hid (BN_w30.out.below hb31)
    have TP_w31 := Lib.hid (TP_w30.out.below hb31)
    have BP_w31 := Lib.hid (BP_w30.out.below hb31)
    have TO_w31 := Lib.hid (TO_w30.out.below hb31)
    have BO_w31 := Lib.hid (BO_w30.out.below hb31)
    have BC_w31 := Lib.hid (BC_w30.out.below hb31)
    have NONE_w31 := Lib.hid (NONE_w30.out.below hb31)
    have z0_w31 : w.heap.size < w31.heap.size := Nat.lt_of_lt_of_le z0_w30 hb31.size
    have z1_w31 : w21.heap.size < w31.heap.size := Nat.lt_of_lt_of_le z1_w30 hb31.size
    have z2_w31 : w23.heap.size < w31.heap.size := Nat.lt_of_lt_of_le z2_w30 hb31.size
    have z3_w31 : w25.heap.size < w31.heap.size := Nat.lt_of_lt_of_le z3_w30 hb31.size
    have z4_w31 : w27.heap.size < w31.heap.size := Nat.lt_of_lt_of_le z4_w30 hb31.size
    have z5_w31 : w28.heap.size < w31.heap.size := Nat.lt_of_lt_of_le z5_w30 hb31.size
    have B_w31 := bt B_w30 hb31
    clear T0_w30 T_w30 BN_w30 TP_w30 BP_w30 TO_w30 BO_w30 BC_w30 NONE_w30 z0_w30 z1_w30 z2_w30 z3_w30 z4_w30 z5_w30 B_w30 hb31
    have o_T0_0 := T0_w31.out.c (i := 0) rfl
    have o_T0_1 := T0_w31.out.c (i := 1) rfl
    have o_T0_2 := T0_w31.out.c (i := 2) rfl
    go_wp2_with fail
    clear o_T0_0 o_T0_1 o_T0_2
    go_at_call 11
    (with_reducible refine (r_right_b T_w31.out hsm.out hr.out).mono ?_)
    rintro e w32 ⟨rfl, hb32⟩
    have T0_w32 := Lib.hid (T0_w31.out.below hb32)
    have T_w32 := Lib.hid (T_w31.out.below hb32)
    have BN_w32 := Lib.hid (BN_w31.out.below hb32)
    have TP_w32 := Lib.hid (TP_w31.out.below hb32)
    have BP_w32 := Lib.hid (BP_w31.out.below hb32)
    have TO_w32 := Lib.hid (TO_w31.out.below hb32)
    have BO_w32 := Lib.hid (BO_w31.out.below hb32)
    have BC_w32 := Lib.hid (BC_w31.out.below hb32)
    have NONE_w32 := Lib.hid (NONE_w31.out.below hb32)
    have z0_w32 : w.heap.size < w32.heap.size := Nat.lt_of_lt_of_le z0_w31 hb32.size
    have z1_w32 : w21.heap.size < w32.heap.size := Nat.lt_of_lt_of_le z1_w31 hb32.size
    have z2_w32 : w23.heap.size < w32.heap.size := Nat.lt_of_lt_of_le z2_w31 hb32.size
    have z3_w32 : w25.heap.size < w32.heap.size := Nat.lt_of_lt_of_le z3_w31 hb32.size
    have z4_w32 : w27.heap.size < w32.heap.size := Nat.lt_of_lt_of_le z4_w31 hb32.size
    have z5_w32 : w28.heap.size < w32.heap.size := Nat.lt_of_lt_of_le z5_w31 hb32.size
    have B_w32 := bt B_w31 hb32
    clear T0_w31 T_w31 BN_w31 TP_w31 BP_w31 TO_w31 BO_w31 BC_w31 NONE_w31 z0_w31 z1_w31 z2_w31 z3_w31 z4_w31 z5_w31 B_w31 hb32
    have o_T0_0 := T0_w32.out.c (i := 0) rfl
    have o_T0_1 := T0_w32.out.c (i := 1) rfl
    have o_T0_2 := T0_w32.out.c (i := 2) rfl
    go_wp2_with fail
    clear o_T0_0 o_T0_1 o_T0_2
    go_at_call 14
    (with_reducible refine (rC.out _ _ _ _ T_w32.out).mono ?_)
    rintro e w33 ⟨rfl, hb33⟩
    have T0_w33 := Lib.hid (T0_w32.out.below hb33)
    have T_w33 := Lib.hid (T_w32.out.below hb33)
    have BN_w33 := Lib.hid (BN_w32.out.below hb33)
    have TP_w33 := Lib.hid (TP_w32.out.below hb33)
    have BP_w33 := Lib.hid (BP_w32.out.below hb33)
    have TO_w33 := Lib.hid (TO_w32.out.below hb33)
    have BO_w33 := Lib.hid (BO_w32.out.below hb33)
    have BC_w33 := Lib.hid (BC_w32.out.below hb33)
    have NONE_w33 := Lib.hid (NONE_w32.out.below hb33)
    have z0_w33 : w.heap.size < w33.heap.size := Nat.lt_of_lt_of_le z0_w32 hb33.size
    have z1_w33 : w21.heap.size < w33.heap.size := Nat.lt_of_lt_of_le z1_w32 hb33.size
    have z2_w33 : w23.heap.size < w33.heap.size := Nat.lt_of_lt_of_le z2_w32 hb33.size
    have z3_w33 : w25.heap.size < w33.heap.size := Nat.lt_of_lt_of_le z3_w32 hb33.size
    have z4_w33 : w27.heap.size < w33.heap.size := Nat.lt_of_lt_of_le z4_w32 hb33.size
    have z5_w33 : w28.heap.size < w33.heap.size := Nat.lt_of_lt_of_le z5_w32 hb33.size
    have B_w33 := bt B_w32 hb33
    clear T0_w32 T_w32 BN_w32 TP_w32 BP_w32 TO_w32 BO_w32 BC_w32 NONE_w32 z0_w32 z1_w32 z2_w32 z3_w32 z4_w32 z5_w32 B_w32 hb33
    have o_BC_0 := BC_w33.out.c (i := 0) rfl
    have o_BC_1 := BC_w33.out.c (i := 1) rfl
    have o_BC_2 := BC_w33.out.c (i := 2) rfl
    go_wp2_with fail
    clear o_BC_0 o_BC_1 o_BC_2
    obtain ⟨w34, hw34⟩ : ∃ W, W = w33.alloc (.cells #[.int .i64 cap, .slice none 0 0, .int .i64 om] 24) := ⟨_, rfl⟩
    have bw34 : Below w33.heap.size w33 w34 := by rw [hw34]; exact (Below.refl _ _).alloc (Nat.le_refl _) _
    have Xw34 : Bx w34 w33.heap.size 24 #[.int .i64 cap, .slice none 0 0, .int .i64 om] := by rw [hw34]; exact Bx.new _ _ _ rfl
    rw [← hw34]
    clear hw34
    have T0_w34 := Lib.hid (T0_w33.out.below bw34)
    have T_w34 := Lib.hid (T_w33.out.below bw34)
    have BN_w34 := Lib.hid (BN_w33.out.below bw34)
    have TP_w34 := Lib.hid (TP_w33.out.below bw34)
    have BP_w34 := Lib.hid (BP_w33.out.below bw34)
    have TO_w34 := Lib.hid (TO_w33.out.below bw34)
    have BO_w34 := Lib.hid (BO_w33.out.below bw34)
    have BC_w34 := Lib.hid (BC_w33.out.below bw34)
    have NONE_w34 := Lib.hid (NONE_w33.out.below bw34)
    have BY_w34 := Lib.hid (Xw34)
    have z0_w34 : w.heap.size < w34.heap.size := Nat.lt_of_lt_of_le z0_w33 bw34.size
    have z1_w34 : w21.heap.size < w34.heap.size := Nat.lt_of_lt_of_le z1_w33 bw34.size
    have z2_w34 : w23.heap.size < w34.heap.size := Nat.lt_of_lt_of_le z2_w33 bw34.size
    have z3_w34 : w25.heap.size < w34.heap.size := Nat.lt_of_lt_of_le z3_w33 bw34.size
    have z4_w34 : w27.heap.size < w34.heap.size := Nat.lt_of_lt_of_le z4_w33 bw34.size
    have z5_w34 : w28.heap.size < w34.heap.size := Nat.lt_of_lt_of_le z5_w33 bw34.size
    have B_w34 := bt B_w33 bw34
    clear T0_w33 T_w33 BN_w33 TP_w33 BP_w33 TO_w33 BO_w33 BC_w33 NONE_w33 z0_w33 z1_w33 z2_w33 z3_w33 z4_w33 z5_w33 B_w33 bw34
    have z6_w34 : w33.heap.size < w34.heap.size := Xw34.lt
    clear Xw34
    go_at_call 13
    (with_reducible refine (r_same cap om (RowS.empty _) (RowS.empty _) (by simp)).mono ?_)
    rintro e w35 ⟨rfl, hb35⟩
    have T0_w35 := Lib.hid (T0_w34.out.below hb35)
    have T_w35 := Lib.hid (T_w34.out.below hb35)
    have BN_w35 := Lib.hid (BN_w34.out.below hb35)
    have TP_w35 := Lib.hid (TP_w34.out.below hb35)
    have BP_w35 := Lib.hid (BP_w34.out.below hb35)
    have TO_w35 := Lib.hid (TO_w34.out.below hb35)
    have BO_w35 := Lib.hid (BO_w34.out.below hb35)
    have BC_w35 := Lib.hid (BC_w34.out.below hb35)
    have NONE_w35 := Lib.hid (NONE_w34.out.below hb35)
    have BY_w35 := Lib.hid (BY_w34.out.below hb35)
    have z0_w35 : w.heap.size < w35.heap.size := Nat.lt_of_lt_of_le z0_w34 hb35.size
    have z1_w35 : w21.heap.size < w35.heap.size := Nat.lt_of_lt_of_le z1_w34 hb35.size
    have z2_w35 : w23.heap.size < w35.heap.size := Nat.lt_of_lt_of_le z2_w34 hb35.size
    have z3_w35 : w25.heap.size < w35.heap.size := Nat.lt_of_lt_of_le z3_w34 hb35.size
    have z4_w35 : w27.heap.size < w35.heap.size := Nat.lt_of_lt_of_le z4_w34 hb35.size
    have z5_w35 : w28.heap.size < w35.heap.size := Nat.lt_of_lt_of_le z5_w34 hb35.size
    have z6_w35 : w33.heap.size < w35.heap.size := Nat.lt_of_lt_of_le z6_w34 hb35.size
    have B_w35 := bt B_w34 hb35
    clear T0_w34 T_w34 BN_w34 TP_w34 BP_w34 TO_w34 BO_w34 BC_w34 NONE_w34 BY_w34 z0_w34 z1_w34 z2_w34 z3_w34 z4_w34 z5_w34 z6_w34 B_w34 hb35
    have o_T0_0 := T0_w35.out.c (i := 0) rfl
    have o_T0_1 := T0_w35.out.c (i := 1) rfl
    have o_T0_2 := T0_w35.out.c (i := 2) rfl
    go_upto_if 148 with fail
    go_cut [6] from 148 (fun s6 wx => s6 = .bool false ∧ Below w35.heap.size w35 wx)
    case first =>
      rcases hO.out with ⟨rfl, rfl, rfl, rfl, rfl, rfl⟩ | ⟨hly, rfl, rfl, rfl⟩
      · have hES := neqS emptyS
        have o_BO_0 := BO_w35.out.c (i := 0) rfl
        have o_BO_1 := BO_w35.out.c (i := 1) rfl
        have o_BO_2 := BO_w35.out.c (i := 2) rfl
        have o_NONE_0 := NONE_w35.out.c (i := 0) rfl
        have o_NONE_1 := NONE_w35.out.c (i := 1) rfl
        have o_NONE_2 := NONE_w35.out.c (i := 2) rfl
        go_wp2_with fail
        clear o_T0_0 o_T0_1 o_T0_2 o_BO_0 o_BO_1 o_BO_2 o_NONE_0 o_NONE_1 o_NONE_2
        go_at_call 13
        (with_reducible refine (r_same 0 0 (show RowS w35 AO 0 co [] by simpa using TO_w35.out) (RowS.empty _) (by simp)).mono ?_)
        rintro e w36 ⟨rfl, hb36⟩
        have T0_w36 := Lib.hid (T0_w35.out.below hb36)
        have T_w36 := Lib.hid (T_w35.out.below hb36)
        have BN_w36 := Lib.hid (BN_w35.out.below hb36)
        have TP_w36 := Lib.hid (TP_w35.out.below hb36)
        have BP_w36 := Lib.hid (BP_w35.out.below hb36)
        have TO_w36 := Lib.hid (TO_w35.out.below hb36)
        have BO_w36 := Lib.hid (BO_w35.out.below hb36)
        have BC_w36 := Lib.hid (BC_w35.out.below hb36)
        have NONE_w36 := Lib.hid (NONE_w35.out.below hb36)
        have BY_w36 := Lib.hid (BY_w35.out.below hb36)
        have z0_w36 : w.heap.size < w36.heap.size := Nat.lt_of_lt_of_le z0_w35 hb36.size
        have z1_w36 : w21.heap.size < w36.heap.size := Nat.lt_of_lt_of_le z1_w35 hb36.size
        have z2_w36 : w23.heap.size < w36.heap.size := Nat.lt_of_lt_of_le z2_w35 hb36.size
        have z3_w36 : w25.heap.size < w36.heap.size := Nat.lt_of_lt_of_le z3_w35 hb36.size
        have z4_w36 : w27.heap.size < w36.heap.size := Nat.lt_of_lt_of_le z4_w35 hb36.size
        have z5_w36 : w28.heap.size < w36.heap.size := Nat.lt_of_lt_of_le z5_w35 hb36.size
        have z6_w36 : w33.heap.size < w36.heap.size := Nat.lt_of_lt_of_le z6_w35 hb36.size
        clear T0_w35 T_w35 BN_w35 TP_w35 BP_w35 TO_w35 BO_w35 BC_w35 NONE_w35 BY_w35 z0_w35 z1_w35 z2_w35 z3_w35 z4_w35 z5_w35 z6_w35
        go_wp2_with fail
        go_meet
        exact ⟨rfl, hb36⟩
      · have hl0 : l[0]? = some y := by rw [hly]; rfl
        obtain ⟨bq, oq, rfl, hbq, x0⟩ := SlS.at_ T_w35.out.sl hl0
        rw [Nat.add_zero] at x0
        have hn0 : ((l.length : Int) == 0) = false := by rw [hly]; simp; omega
        have hn1 : (1 : Int) ≤ (l.length : Int) := by rw [hly]; simp; omega
        have hYS := neqS y
        have hcq : l.length ≤ cq := T_w35.out.cap
        have hcq1 : (l.length : Int) ≤ (cq : Int) := by omega
        have hn2 : (0 : Int) < (l.length : Int) := by omega
        have hD := Lib.hid (fun W' (hB : Below w35.heap.size w35 W') => rest_rowG T_w35.out hly hB)
        replace hly := Lib.hid hly
        clear hl0
        go_wp2_with fail
        clear o_T0_0 o_T0_1 o_T0_2
        have K_T_0 := cell_regrown (T0_w35.out.c (i := 0) rfl)
        have K_O_0 := cell_regrown (BO_w35.out.c (i := 0) rfl)
        have K_T_1 := cell_regrown (T0_w35.out.c (i := 1) rfl)
        have K_O_1 := cell_regrown (BO_w35.out.c (i := 1) rfl)
        have K_T_2 := cell_regrown (T0_w35.out.c (i := 2) rfl)
        have K_O_2 := cell_regrown (BO_w35.out.c (i := 2) rfl)
        have K_x := cell_regrown x0
        have cC0 := fun (d : Nat) (os : Array Obj) => Calls.regrown_of (r_same cap lost (TO_w35.out.below (below_regrown w35 d os)) (hD.out (Go.Sort.grow (redrawn w35 d) os) (below_regrown w35 d os)) (by have := hO1.out; omega))
        refine wp_region_quiet_below (by kernel_rfl) (by kernel_rfl) ?_
        repeat (first | go_big_quiet_step (with_reducible exact cC0 _ _) | quiet_step (with_reducible exact cC0 _ _))
        refine wpQuiet_nil ?_
        intro _ hw'
        obtain ⟨⟨dq, osq⟩, hw''⟩ := hw'
        subst hw''
        have hq9 := below_regrown w35 dq osq
        clear K_T_0 K_T_1 K_T_2 K_O_0 K_O_1 K_O_2 K_x cC0
        generalize Go.Sort.grow (redrawn w35 dq) osq = w9 at *
        clear hD
        generalize (if cq = 1 then some (⟨bq, oq, none⟩ : Addr) else some ⟨bq, oq + 1, none⟩) = A9
        go_wp2_with fail
        go_meet
        exact ⟨rfl, hq9⟩
    case rest =>
    obtain ⟨rfl, hcb⟩ := hcut
    have T0_wc := Lib.hid (T0_w35.out.below hcb)
    have T_wc := Lib.hid (T_w35.out.below hcb)
    have BN_wc := Lib.hid (BN_w35.out.below hcb)
    have TP_wc := Lib.hid (TP_w35.out.below hcb)
    have BP_wc := Lib.hid (BP_w35.out.below hcb)
    have TO_wc := Lib.hid (TO_w35.out.below hcb)
    have BO_wc := Lib.hid (BO_w35.out.below hcb)
    have BC_wc := Lib.hid (BC_w35.out.below hcb)
    have NONE_wc := Lib.hid (NONE_w35.out.below hcb)
    have BY_wc := Lib.hid (BY_w35.out.below hcb)
    have z0_wc : w.heap.size < wc.heap.size := Nat.lt_of_lt_of_le z0_w35 hcb.size
    have z1_wc : w21.heap.size < wc.heap.size := Nat.lt_of_lt_of_le z1_w35 hcb.size
    have z2_wc : w23.heap.size < wc.heap.size := Nat.lt_of_lt_of_le z2_w35 hcb.size
    have z3_wc : w25.heap.size < wc.heap.size := Nat.lt_of_lt_of_le z3_w35 hcb.size
    have z4_wc : w27.heap.size < wc.heap.size := Nat.lt_of_lt_of_le z4_w35 hcb.size
    have z5_wc : w28.heap.size < wc.heap.size := Nat.lt_of_lt_of_le z5_w35 hcb.size
    have z6_wc : w33.heap.size < wc.heap.size := Nat.lt_of_lt_of_le z6_w35 hcb.size
    have B_wc := bt B_w35 hcb
    clear T0_w35 T_w35 BN_w35 TP_w35 BP_w35 TO_w35 BO_w35 BC_w35 NONE_w35 BY_w35 z0_w35 z1_w35 z2_w35 z3_w35 z4_w35 z5_w35 z6_w35 B_w35 hcb
    rcases hP.out with ⟨hd, rfl, rfl, rfl, rfl, rfl⟩ | ⟨hd, hf, rfl, rfl, rfl, rfl, rfl⟩ | ⟨hd, hf, rfl, rfl, rfl, rfl, rfl⟩
    · have hd' : (114 : Int) < s.size := by simpa using hd
      have o_BP_0 := BP_wc.out.c (i := 0) rfl
      have o_BP_1 := BP_wc.out.c (i := 1) rfl
      have o_BP_2 := BP_wc.out.c (i := 2) rfl
      have o_NONE_0 := NONE_wc.out.c (i := 0) rfl
      have o_NONE_1 := NONE_wc.out.c (i := 1) rfl
      have o_NONE_2 := NONE_wc.out.c (i := 2) rfl
      go_wp2_with fail
      clear o_BP_0 o_BP_1 o_BP_2 o_NONE_0 o_NONE_1 o_NONE_2
      go_at_call 13
      (with_reducible refine (r_same 0 0 (show RowS wc AP 0 cp [] by simpa using TP_wc.out) (RowS.empty _) (by simp)).mono ?_)
      rintro e w36 ⟨rfl, hb36⟩
      have T0_w36 := Lib.hid (T0_wc.out.below hb36)
      have T_w36 := Lib.hid (T_wc.out.below hb36)
      have BN_w36 := Lib.hid (BN_wc.out.below hb36)
      have TP_w36 := Lib.hid (TP_wc.out.below hb36)
      have BP_w36 := Lib.hid (BP_wc.out.below hb36)
      have TO_w36 := Lib.hid (TO_wc.out.below hb36)
      have BO_w36 := Lib.hid (BO_wc.out.below hb36)
      have BC_w36 := Lib.hid (BC_wc.out.below hb36)
      have NONE_w36 := Lib.hid (NONE_wc.out.below hb36)
      have BY_w36 := Lib.hid (BY_wc.out.below hb36)
      have z0_w36 : w.heap.size < w36.heap.size := Nat.lt_of_lt_of_le z0_wc hb36.size
      have z1_w36 : w21.heap.size < w36.heap.size := Nat.lt_of_lt_of_le z1_wc hb36.size
      have z2_w36 : w23.heap.size < w36.heap.size := Nat.lt_of_lt_of_le z2_wc hb36.size
      have z3_w36 : w25.heap.size < w36.heap.size := Nat.lt_of_lt_of_le z3_wc hb36.size
      have z4_w36 : w27.heap.size < w36.heap.size := Nat.lt_of_lt_of_le z4_wc hb36.size
      have z5_w36 : w28.heap.size < w36.heap.size := Nat.lt_of_lt_of_le z5_wc hb36.size
      have z6_w36 : w33.heap.size < w36.heap.size := Nat.lt_of_lt_of_le z6_wc hb36.size
      have B_w36 := bt B_wc hb36
      clear T0_wc T_wc BN_wc TP_wc BP_wc TO_wc BO_wc BC_wc NONE_wc BY_wc z0_wc z1_wc z2_wc z3_wc z4_wc z5_wc z6_wc B_wc hb36
      go_wp2_with fail
      go_ret
      exact ⟨rfl, B_w36⟩
    · have hd' : ¬ (114 : Int) < s.size := by simpa using hd
      have hPl := hP1.out
      have o_T0_0 := T0_wc.out.c (i := 0) rfl
      have o_T0_1 := T0_wc.out.c (i := 1) rfl
      have o_T0_2 := T0_wc.out.c (i := 2) rfl
      go_wp2_with fail
      clear o_T0_0 o_T0_1 o_T0_2
      go_at_call 15
      (with_reducible refine (r_push_no cap lost s T_wc.out (by omega) hlo.out.1 hlo.out.2 hf).mono ?_)
      rintro e w36 ⟨rfl, hb36⟩
      have T0_w36 := Lib.hid (T0_wc.out.below hb36)
      have T_w36 := Lib.hid (T_wc.out.below hb36)
      have BN_w36 := Lib.hid (BN_wc.out.below hb36)
      have TP_w36 := Lib.hid (TP_wc.out.below hb36)
      have BP_w36 := Lib.hid (BP_wc.out.below hb36)
      have TO_w36 := Lib.hid (TO_wc.out.below hb36)
      have BO_w36 := Lib.hid (BO_wc.out.below hb36)
      have BC_w36 := Lib.hid (BC_wc.out.below hb36)
      have NONE_w36 := Lib.hid (NONE_wc.out.below hb36)
      have BY_w36 := Lib.hid (BY_wc.out.below hb36)
      have z0_w36 : w.heap.size < w36.heap.size := Nat.lt_of_lt_of_le z0_wc hb36.size
      have z1_w36 : w21.heap.size < w36.heap.size := Nat.lt_of_lt_of_le z1_wc hb36.size
      have z2_w36 : w23.heap.size < w36.heap.size := Nat.lt_of_lt_of_le z2_wc hb36.size
      have z3_w36 : w25.heap.size < w36.heap.size := Nat.lt_of_lt_of_le z3_wc hb36.size
      have z4_w36 : w27.heap.size < w36.heap.size := Nat.lt_of_lt_of_le z4_wc hb36.size
      have z5_w36 : w28.heap.size < w36.heap.size := Nat.lt_of_lt_of_le z5_wc hb36.size
      have z6_w36 : w33.heap.size < w36.heap.size := Nat.lt_of_lt_of_le z6_wc hb36.size
      have B_w36 := bt B_wc hb36
      clear T0_wc T_wc BN_wc TP_wc BP_wc TO_wc BO_wc BC_wc NONE_wc BY_wc z0_wc z1_wc z2_wc z3_wc z4_wc z5_wc z6_wc B_wc hb36
      have o_BP_0 := BP_w36.out.c (i := 0) rfl
      have o_BP_1 := BP_w36.out.c (i := 1) rfl
      have o_BP_2 := BP_w36.out.c (i := 2) rfl
      go_wp2_with fail
      clear o_BP_0 o_BP_1 o_BP_2
      obtain ⟨w37, hw37⟩ : ∃ W, W = w36.alloc (.cells #[.int .i64 cap, .slice Aq l.length cq, .int .i64 (min (lost + 1) 1000000)] 24) := ⟨_, rfl⟩
      have bw37 : Below w36.heap.size w36 w37 := by rw [hw37]; exact (Below.refl _ _).alloc (Nat.le_refl _) _
      have Xw37 : Bx w37 w36.heap.size 24 #[.int .i64 cap, .slice Aq l.length cq, .int .i64 (min (lost + 1) 1000000)] := by rw [hw37]; exact Bx.new _ _ _ rfl
      rw [← hw37]
      clear hw37
      have T0_w37 := Lib.hid (T0_w36.out.below bw37)
      have T_w37 := Lib.hid (T_w36.out.below bw37)
      have BN_w37 := Lib.hid (BN_w36.out.below bw37)
      have TP_w37 := Lib.hid (TP_w36.out.below bw37)
      have BP_w37 := Lib.hid (BP_w36.out.below bw37)
      have TO_w37 := Lib.hid (TO_w36.out.below bw37)
      have BO_w37 := Lib.hid (BO_w36.out.below bw37)
      have BC_w37 := Lib.hid (BC_w36.out.below bw37)
      have NONE_w37 := Lib.hid (NONE_w36.out.below bw37)
      have BY_w37 := Lib.hid (BY_w36.out.below bw37)
      have BZ_w37 := Lib.hid (Xw37)
      have z0_w37 : w.heap.size < w37.heap.size := Nat.lt_of_lt_of_le z0_w36 bw37.size
      have z1_w37 : w21.heap.size < w37.heap.size := Nat.lt_of_lt_of_le z1_w36 bw37.size
      have z2_w37 : w23.heap.size < w37.heap.size := Nat.lt_of_lt_of_le z2_w36 bw37.size
      have z3_w37 : w25.heap.size < w37.heap.size := Nat.lt_of_lt_of_le z3_w36 bw37.size
      have z4_w37 : w27.heap.size < w37.heap.size := Nat.lt_of_lt_of_le z4_w36 bw37.size
      have z5_w37 : w28.heap.size < w37.heap.size := Nat.lt_of_lt_of_le z5_w36 bw37.size
      have z6_w37 : w33.heap.size < w37.heap.size := Nat.lt_of_lt_of_le z6_w36 bw37.size
      have B_w37 := bt B_w36 bw37
      clear T0_w36 T_w36 BN_w36 TP_w36 BP_w36 TO_w36 BO_w36 BC_w36 NONE_w36 BY_w36 z0_w36 z1_w36 z2_w36 z3_w36 z4_w36 z5_w36 z6_w36 B_w36 bw37
      have z7_w37 : w36.heap.size < w37.heap.size := Xw37.lt
      clear Xw37
      go_at_call 13
      (with_reducible refine (r_same cap (min (lost + 1) 1000000) TP_w37.out T_w37.out (by omega)).mono ?_)
      rintro e w38 ⟨rfl, hb38⟩
      have T0_w38 := Lib.hid (T0_w37.out.below hb38)
      have T_w38 := Lib.hid (T_w37.out.below hb38)
      have BN_w38 := Lib.hid (BN_w37.out.below hb38)
      have TP_w38 := Lib.hid (TP_w37.out.below hb38)
      have BP_w38 := Lib.hid (BP_w37.out.below hb38)
      have TO_w38 := Lib.hid (TO_w37.out.below hb38)
      have BO_w38 := Lib.hid (BO_w37.out.below hb38)
      have BC_w38 := Lib.hid (BC_w37.out.below hb38)
      have NONE_w38 := Lib.hid (NONE_w37.out.below hb38)
      have BY_w38 := Lib.hid (BY_w37.out.below hb38)
      have BZ_w38 := Lib.hid (BZ_w37.out.below hb38)
      have z0_w38 : w.heap.size < w38.heap.size := Nat.lt_of_lt_of_le z0_w37 hb38.size
      have z1_w38 : w21.heap.size < w38.heap.size := Nat.lt_of_lt_of_le z1_w37 hb38.size
      have z2_w38 : w23.heap.size < w38.heap.size := Nat.lt_of_lt_of_le z2_w37 hb38.size
      have z3_w38 : w25.heap.size < w38.heap.size := Nat.lt_of_lt_of_le z3_w37 hb38.size
      have z4_w38 : w27.heap.size < w38.heap.size := Nat.lt_of_lt_of_le z4_w37 hb38.size
      have z5_w38 : w28.heap.size < w38.heap.size := Nat.lt_of_lt_of_le z5_w37 hb38.size
      have z6_w38 : w33.heap.size < w38.heap.size := Nat.lt_of_lt_of_le z6_w37 hb38.size
      have z7_w38 : w36.heap.size < w38.heap.size := Nat.lt_of_lt_of_le z7_w37 hb38.size
      have B_w38 := bt B_w37 hb38
      clear T0_w37 T_w37 BN_w37 TP_w37 BP_w37 TO_w37 BO_w37 BC_w37 NONE_w37 BY_w37 BZ_w37 z0_w37 z1_w37 z2_w37 z3_w37 z4_w37 z5_w37 z6_w37 z7_w37 B_w37 hb38
      go_wp2_with fail
      go_ret
      exact ⟨rfl, B_w38⟩
    · have hd' : ¬ (114 : Int) < s.size := by simpa using hd
      have hPl := hP1.out
      have hsl := hsm.out.1
      have o_T0_0 := T0_wc.out.c (i := 0) rfl
      have o_T0_1 := T0_wc.out.c (i := 1) rfl
      have o_T0_2 := T0_wc.out.c (i := 2) rfl
      go_wp2_with fail
      clear o_T0_0 o_T0_1 o_T0_2
      go_at_call 15
      (with_reducible refine (r_push_yes cap lost s T_wc.out (by omega) hf).mono ?_)
      rintro e w36 ⟨AZ, cz, rfl, TZ, hb36⟩
      have T0_w36 := Lib.hid (T0_wc.out.below hb36)
      have T_w36 := Lib.hid (T_wc.out.below hb36)
      have BN_w36 := Lib.hid (BN_wc.out.below hb36)
      have TP_w36 := Lib.hid (TP_wc.out.below hb36)
      have BP_w36 := Lib.hid (BP_wc.out.below hb36)
      have TO_w36 := Lib.hid (TO_wc.out.below hb36)
      have BO_w36 := Lib.hid (BO_wc.out.below hb36)
      have BC_w36 := Lib.hid (BC_wc.out.below hb36)
      have NONE_w36 := Lib.hid (NONE_wc.out.below hb36)
      have BY_w36 := Lib.hid (BY_wc.out.below hb36)
      have TZ_w36 := Lib.hid (TZ)
      have z0_w36 : w.heap.size < w36.heap.size := Nat.lt_of_lt_of_le z0_wc hb36.size
      have z1_w36 : w21.heap.size < w36.heap.size := Nat.lt_of_lt_of_le z1_wc hb36.size
      have z2_w36 : w23.heap.size < w36.heap.size := Nat.lt_of_lt_of_le z2_wc hb36.size
      have z3_w36 : w25.heap.size < w36.heap.size := Nat.lt_of_lt_of_le z3_wc hb36.size
      have z4_w36 : w27.heap.size < w36.heap.size := Nat.lt_of_lt_of_le z4_wc hb36.size
      have z5_w36 : w28.heap.size < w36.heap.size := Nat.lt_of_lt_of_le z5_wc hb36.size
      have z6_w36 : w33.heap.size < w36.heap.size := Nat.lt_of_lt_of_le z6_wc hb36.size
      have B_w36 := bt B_wc hb36
      clear T0_wc T_wc BN_wc TP_wc BP_wc TO_wc BO_wc BC_wc NONE_wc BY_wc z0_wc z1_wc z2_wc z3_wc z4_wc z5_wc z6_wc B_wc hb36
      clear TZ
      have o_BP_0 := BP_w36.out.c (i := 0) rfl
      have o_BP_1 := BP_w36.out.c (i := 1) rfl
      have o_BP_2 := BP_w36.out.c (i := 2) rfl
      go_wp2_with fail
      clear o_BP_0 o_BP_1 o_BP_2
      obtain ⟨w37, hw37⟩ : ∃ W, W = w36.alloc (.cells #[.int .i64 cap, .slice AZ (l.length + 1) cz, .int .i64 lost] 24) := ⟨_, rfl⟩
      have bw37 : Below w36.heap.size w36 w37 := by rw [hw37]; exact (Below.refl _ _).alloc (Nat.le_refl _) _
      have Xw37 : Bx w37 w36.heap.size 24 #[.int .i64 cap, .slice AZ (l.length + 1) cz, .int .i64 lost] := by rw [hw37]; exact Bx.new _ _ _ rfl
      rw [← hw37]
      clear hw37
      have T0_w37 := Lib.hid (T0_w36.out.below bw37)
      have T_w37 := Lib.hid (T_w36.out.below bw37)
      have BN_w37 := Lib.hid (BN_w36.out.below bw37)
      have TP_w37 := Lib.hid (TP_w36.out.below bw37)
      have BP_w37 := Lib.hid (BP_w36.out.below bw37)
      have TO_w37 := Lib.hid (TO_w36.out.below bw37)
      have BO_w37 := Lib.hid (BO_w36.out.below bw37)
      have BC_w37 := Lib.hid (BC_w36.out.below bw37)
      have NONE_w37 := Lib.hid (NONE_w36.out.below bw37)
      have BY_w37 := Lib.hid (BY_w36.out.below bw37)
      have TZ_w37 := Lib.hid (TZ_w36.out.below bw37)
      have BZ_w37 := Lib.hid (Xw37)
      have z0_w37 : w.heap.size < w37.heap.size := Nat.lt_of_lt_of_le z0_w36 bw37.size
      have z1_w37 : w21.heap.size < w37.heap.size := Nat.lt_of_lt_of_le z1_w36 bw37.size
      have z2_w37 : w23.heap.size < w37.heap.size := Nat.lt_of_lt_of_le z2_w36 bw37.size
      have z3_w37 : w25.heap.size < w37.heap.size := Nat.lt_of_lt_of_le z3_w36 bw37.size
      have z4_w37 : w27.heap.size < w37.heap.size := Nat.lt_of_lt_of_le z4_w36 bw37.size
      have z5_w37 : w28.heap.size < w37.heap.size := Nat.lt_of_lt_of_le z5_w36 bw37.size
      have z6_w37 : w33.heap.size < w37.heap.size := Nat.lt_of_lt_of_le z6_w36 bw37.size
      have B_w37 := bt B_w36 bw37
      clear T0_w36 T_w36 BN_w36 TP_w36 BP_w36 TO_w36 BO_w36 BC_w36 NONE_w36 BY_w36 TZ_w36 z0_w36 z1_w36 z2_w36 z3_w36 z4_w36 z5_w36 z6_w36 B_w36 bw37
      have z7_w37 : w36.heap.size < w37.heap.size := Xw37.lt
      clear Xw37
      go_at_call 13
      (with_reducible refine (r_same cap lost (show RowS w37 AP (l.length + 1) cp (l ++ [s]) by simpa using TP_w37.out) (show RowS w37 AZ (l.length + 1) cz (l ++ [s]) by simpa using TZ_w37.out) (Nat.le_trans hPl (by decide))).mono ?_)
      rintro e w38 ⟨rfl, hb38⟩
      have T0_w38 := Lib.hid (T0_w37.out.below hb38)
      have T_w38 := Lib.hid (T_w37.out.below hb38)
      have BN_w38 := Lib.hid (BN_w37.out.below hb38)
      have TP_w38 := Lib.hid (TP_w37.out.below hb38)
      have BP_w38 := Lib.hid (BP_w37.out.below hb38)
      have TO_w38 := Lib.hid (TO_w37.out.below hb38)
      have BO_w38 := Lib.hid (BO_w37.out.below hb38)
      have BC_w38 := Lib.hid (BC_w37.out.below hb38)
      have NONE_w38 := Lib.hid (NONE_w37.out.below hb38)
      have BY_w38 := Lib.hid (BY_w37.out.below hb38)
      have TZ_w38 := Lib.hid (TZ_w37.out.below hb38)
      have BZ_w38 := Lib.hid (BZ_w37.out.below hb38)
      have z0_w38 : w.heap.size < w38.heap.size := Nat.lt_of_lt_of_le z0_w37 hb38.size
      have z1_w38 : w21.heap.size < w38.heap.size := Nat.lt_of_lt_of_le z1_w37 hb38.size
      have z2_w38 : w23.heap.size < w38.heap.size := Nat.lt_of_lt_of_le z2_w37 hb38.size
      have z3_w38 : w25.heap.size < w38.heap.size := Nat.lt_of_lt_of_le z3_w37 hb38.size
      have z4_w38 : w27.heap.size < w38.heap.size := Nat.lt_of_lt_of_le z4_w37 hb38.size
      have z5_w38 : w28.heap.size < w38.heap.size := Nat.lt_of_lt_of_le z5_w37 hb38.size
      have z6_w38 : w33.heap.size < w38.heap.size := Nat.lt_of_lt_of_le z6_w37 hb38.size
      have z7_w38 : w36.heap.size < w38.heap.size := Nat.lt_of_lt_of_le z7_w37 hb38.size
      have B_w38 := bt B_w37 hb38
      clear T0_w37 T_w37 BN_w37 TP_w37 BP_w37 TO_w37 BO_w37 BC_w37 NONE_w37 BY_w37 TZ_w37 BZ_w37 z0_w37 z1_w37 z2_w37 z3_w37 z4_w37 z5_w37 z6_w37 z7_w37 B_w37 hb38
      go_wp2_with fail
      go_ret
      exact ⟨rfl, B_w38⟩
end Go.Proofs.Ytimpngmmmoaejaa.ChanP
