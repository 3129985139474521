/-
  RoleTold, by the contracts of role's own functions.
-/
import Derived.Test.YtdnpcpehjjildaaRoleN
namespace Go.Proofs.Ytdnpcpehjjildaa.RoleP
open Go.RowKit Go.Sort Go.Proofs.Ytdnpcpehjjildaa.SliceP Go.Proofs.Ytdnpcpehjjildaa.BoxP Go.Proofs.Ytdnpcpehjjildaa.VecP
open Go.Proofs.Ytdnpcpehjjildaa.IntP (RowI SlI OwnI)
open Go.Proofs.Ytdnpcpehjjildaa.BoolP (RowB SlB)
set_option linter.unusedVariables false
set_option maxRecDepth 100000
set_option maxHeartbeats 64000000 in
theorem told_law (C : RoleC) {s : S} {AC : Option Addr} {cC : Nat} {AU : Option Addr} {cU : Nat} {AI : Option Addr} {cI : Nat} {w : World} (hS : SelfR w s AC cC AU cU AI cI) (hk : cC ≤ 9223372036854775807 ∧ cU ≤ 9223372036854775807 ∧ cI ≤ 9223372036854775807) (mo : Int) :
    Calls Try.prog 5 #[selfV s.id (.slice AC s.costs.length cC) (.slice AU s.ups.length cU) (.slice AI s.infos.length cI), .int .i64 mo] w (True1 w) := by
  obtain ⟨s1, s2⟩ := mod_bd mo 255 (by omega) (by omega)
  obtain ⟨nx, hnx⟩ : ∃ x, (wrap64 (mo.tmod 255 + 255)).tmod 255 = x := ⟨_, rfl⟩
  rw [hnx] at s1 s2
  obtain ⟨d, hnw⟩ : ∃ x, 1 + nx = x := ⟨_, rfl⟩
  have hd : 1 ≤ d ∧ d ≤ 255 := by omega
  obtain ⟨h1, h255⟩ := hd
  go_enter Try.func5, Try.ntmps5
  have S0 := Lib.hid hS
  go_wp2_with fail
  obtain ⟨w1, hw1⟩ : ∃ W, W = w.alloc (.cells #[.int .i64 s.id, .slice AC s.costs.length cC, .slice AU s.ups.length cU, .slice AI s.infos.length cI] 26) := ⟨_, rfl⟩
  have bw1 : Below w.heap.size w w1 := by rw [hw1]; exact (Below.refl _ _).alloc (Nat.le_refl _) _
  have Xw1 : Bx w1 w.heap.size 26 #[.int .i64 s.id, .slice AC s.costs.length cC, .slice AU s.ups.length cU, .slice AI s.infos.length cI] := by rw [hw1]; exact Bx.new _ _ _ rfl
  rw [← hw1]
  clear hw1
  have S_w1 := Lib.hid (S0.out.below bw1)
  have T0_w1 := Lib.hid (Xw1)
  clear S0
  have z0_w1 : w.heap.size < w1.heap.size := Xw1.lt
  clear Xw1
  go_at_call 7
  (with_reducible refine (few_any S_w1.out hk.1 hk.2.1 hk.2.2).mono ?_)
  rintro e w2 ⟨rfl, hb2⟩
  have S_w2 := Lib.hid (S_w1.out.below hb2)
  have T0_w2 := Lib.hid (T0_w1.out.below hb2)
  have z0_w2 : w.heap.size < w2.heap.size := Nat.lt_of_lt_of_le z0_w1 hb2.size
  have B_w2 := bt bw1 hb2
  clear S_w1 T0_w1 z0_w1 bw1 hb2
  have o_T0_0 := T0_w2.out.c (i := 0) rfl
  have o_T0_1 := T0_w2.out.c (i := 1) rfl
  have o_T0_2 := T0_w2.out.c (i := 2) rfl
  have o_T0_3 := T0_w2.out.c (i := 3) rfl
  have p_T0_0 := T0_w2.out.f 0
  have p_T0_1 := T0_w2.out.f 1
  have p_T0_2 := T0_w2.out.f 2
  have p_T0_3 := T0_w2.out.f 3
  go_upto_region 3 with fail
  clear o_T0_0 o_T0_1 o_T0_2 o_T0_3 p_T0_0 p_T0_1 p_T0_2 p_T0_3
  obtain ⟨w3, hw3⟩ : ∃ W, W = ((((w2.setCell ⟨w.heap.size, 0, none⟩ (.int .i64 (few s).id)).setCell ⟨w.heap.size, 1, none⟩ (.slice AC (few s).costs.length cC)).setCell ⟨w.heap.size, 2, none⟩ (.slice AU (few s).ups.length cU)).setCell ⟨w.heap.size, 3, none⟩ (.slice AI (few s).infos.length cI)) := ⟨_, rfl⟩
  have T3 := Lib.hid (show Bx w3 w.heap.size 26 #[.int .i64 (few s).id, .slice AC (few s).costs.length cC, .slice AU (few s).ups.length cU, .slice AI (few s).infos.length cI] by rw [hw3]; exact Bx.set4 T0_w2.out)
  have B3 : Below w.heap.size w w3 := by rw [hw3]; exact below4 B_w2 (Nat.le_refl _) _ _ _ _
  have A3 := Lib.hid (Arg.new hS B3 hk)
  have z3 : w.heap.size < w3.heap.size := T3.out.lt
  rw [← hw3]
  clear hw3 S_w2 T0_w2 B_w2 z0_w2 hS hk
  generalize few s = f at *
  clear hnx hnw s1 s2
  cases hok : f.ok with
  | false =>
    replace hok := Lib.hid hok
    have o_T_0 := T3.out.c (i := 0) rfl
    have o_T_1 := T3.out.c (i := 1) rfl
    have o_T_2 := T3.out.c (i := 2) rfl
    have o_T_3 := T3.out.c (i := 3) rfl
    go_wp2_with fail
    clear o_T_0 o_T_1 o_T_2 o_T_3
    go_at_call 8
    (with_reducible refine (C.root_no hok.out A3.out).mono ?_)
    rintro e w4 ⟨rfl, hb4⟩
    have T_w4 := Lib.hid (T3.out.below hb4)
    have A_w4 := Lib.hid (A3.out.below hb4)
    have z0_w4 : w.heap.size < w4.heap.size := Nat.lt_of_lt_of_le z3 hb4.size
    have B_w4 := bt B3 hb4
    clear T3 A3 z3 B3 hb4
    go_wp2_with fail
    obtain ⟨w5, hw5⟩ : ∃ W, W = w4.alloc (.cells #[.int .i64 0, .int .i64 0, .int .i64 0, .int .i64 0] 29) := ⟨_, rfl⟩
    have bw5 : Below w4.heap.size w4 w5 := by rw [hw5]; exact (Below.refl _ _).alloc (Nat.le_refl _) _
    have Xw5 : Bx w5 w4.heap.size 29 #[.int .i64 0, .int .i64 0, .int .i64 0, .int .i64 0] := by rw [hw5]; exact Bx.new _ _ _ rfl
    rw [← hw5]
    clear hw5
    have T_w5 := Lib.hid (T_w4.out.below bw5)
    have A_w5 := Lib.hid (A_w4.out.below bw5)
    have BV_w5 := Lib.hid (Xw5)
    have z0_w5 : w.heap.size < w5.heap.size := Nat.lt_of_lt_of_le z0_w4 bw5.size
    have B_w5 := bt B_w4 bw5
    clear T_w4 A_w4 z0_w4 B_w4 bw5
    have z1_w5 : w4.heap.size < w5.heap.size := Xw5.lt
    clear Xw5
    go_at_call 13
    (with_reducible refine (alive_any C _).mono ?_)
    rintro e w6 ⟨rfl, hb6⟩
    have T_w6 := Lib.hid (T_w5.out.below hb6)
    have A_w6 := Lib.hid (A_w5.out.below hb6)
    have BV_w6 := Lib.hid (BV_w5.out.below hb6)
    have z0_w6 : w.heap.size < w6.heap.size := Nat.lt_of_lt_of_le z0_w5 hb6.size
    have z1_w6 : w4.heap.size < w6.heap.size := Nat.lt_of_lt_of_le z1_w5 hb6.size
    have B_w6 := bt B_w5 hb6
    clear T_w5 A_w5 BV_w5 z0_w5 z1_w5 B_w5 hb6
    go_wp2_with fail
    go_ret
    exact ⟨rfl, B_w6⟩
  | true =>
    obtain ⟨hid, hlen, hl2, hl3⟩ := ok_lens hok
    obtain ⟨v, hv⟩ : ∃ v, f.tells 0 = v := ⟨_, rfl⟩
    obtain ⟨ri, hri⟩ : ∃ n, f.rootI = n := ⟨_, rfl⟩
    have hr1 : ¬ ri < -1 := by rcases root_ways (s := f) with ⟨_, e, _⟩ | ⟨b, _, e, _, _⟩ <;> omega
    have hr2 : ¬ (f.costs.length : Int) ≤ ri := by rcases root_ways (s := f) with ⟨_, e, _⟩ | ⟨b, _, e, _, _⟩ <;> omega
    have hi2 : (f.ups.length : Int) = (f.costs.length : Int) := by omega
    have hi3 : (f.infos.length : Int) = (f.costs.length : Int) := by omega
    replace hok := Lib.hid hok
    replace hv := Lib.hid hv
    replace hri := Lib.hid hri
    replace hl2 := Lib.hid hl2
    replace hl3 := Lib.hid hl3
    have o_T_0 := T3.out.c (i := 0) rfl
    have o_T_1 := T3.out.c (i := 1) rfl
    have o_T_2 := T3.out.c (i := 2) rfl
    have o_T_3 := T3.out.c (i := 3) rfl
    go_wp2_with fail
    clear o_T_0 o_T_1 o_T_2 o_T_3
    go_at_call 8
    (with_reducible refine (root_ok_to C hok.out hv.out hri.out A3.out).mono ?_)
    rintro e w4 ⟨rfl, hb4⟩
    have T_w4 := Lib.hid (T3.out.below hb4)
    have A_w4 := Lib.hid (A3.out.below hb4)
    have z0_w4 : w.heap.size < w4.heap.size := Nat.lt_of_lt_of_le z3 hb4.size
    have B_w4 := bt B3 hb4
    clear T3 A3 z3 B3 hb4
    have o_T_0 := T_w4.out.c (i := 0) rfl
    have o_T_1 := T_w4.out.c (i := 1) rfl
    have o_T_2 := T_w4.out.c (i := 2) rfl
    have o_T_3 := T_w4.out.c (i := 3) rfl
    go_upto_region 8 with fail
    clear o_T_0 o_T_1 o_T_2 o_T_3
    obtain ⟨w5, hw5⟩ : ∃ W, W = w4.alloc (.cells #[.int .i64 v.r, .int .i64 v.c, .int .i64 v.b, .int .i64 v.p] 29) := ⟨_, rfl⟩
    have bw5 : Below w4.heap.size w4 w5 := by rw [hw5]; exact (Below.refl _ _).alloc (Nat.le_refl _) _
    have Xw5 : Bx w5 w4.heap.size 29 #[.int .i64 v.r, .int .i64 v.c, .int .i64 v.b, .int .i64 v.p] := by rw [hw5]; exact Bx.new _ _ _ rfl
    rw [← hw5]
    clear hw5
    have T_w5 := Lib.hid (T_w4.out.below bw5)
    have A_w5 := Lib.hid (A_w4.out.below bw5)
    have BV_w5 := Lib.hid (Xw5)
    have z0_w5 : w.heap.size < w5.heap.size := Nat.lt_of_lt_of_le z0_w4 bw5.size
    have B_w5 := bt B_w4 bw5
    clear T_w4 A_w4 z0_w4 B_w4 bw5
    have z1_w5 : w4.heap.size < w5.heap.size := Xw5.lt
    clear Xw5
    clear hi2 hi3 hr1 hr2
    have o_T_0 := T_w5.out.c (i := 0) rfl
    have o_T_1 := T_w5.out.c (i := 1) rfl
    have o_T_2 := T_w5.out.c (i := 2) rfl
    have o_T_3 := T_w5.out.c (i := 3) rfl
    go_wp2_with fail
    clear o_T_0 o_T_1 o_T_2 o_T_3
    go_loopw [65] (fun i wr => ∃ k : Nat, k ≤ f.infos.length ∧ i = .int .i64 k ∧ Below w5.heap.size w5 wr) (fun i _ => f.infos.length - (intOf i).toNat)
    case atStart => exact ⟨0, by omega, rfl, Below.refl _ _⟩
    case round =>
      obtain ⟨k, hk', rfl, hbr⟩ := hrel
      have BW0 := Lib.hid (Bw.mk hbr)
      have T_wr := Lib.hid (T_w5.out.below hbr)
      have A_wr := Lib.hid (A_w5.out.below hbr)
      have BV_wr := Lib.hid (BV_w5.out.below hbr)
      have z0_wr : w.heap.size < wr.heap.size := Nat.lt_of_lt_of_le z0_w5 hbr.size
      have z1_wr : w4.heap.size < wr.heap.size := Nat.lt_of_lt_of_le z1_w5 hbr.size
      have B_wr := bt B_w5 hbr
      clear T_w5 A_w5 BV_w5 z0_w5 z1_w5 B_w5 hbr
      by_cases hlt : k < f.infos.length
      · have hkc : k < f.costs.length := by have := hl3.out; omega
        have hku : k < f.ups.length := by have := hl2.out; omega
        obtain ⟨bI, oI, rfl, hbI, q0, q1, q2, q3, q4, q5⟩ := SlN.at_ A_wr.out.r.infos.sl (info_at hlt)
        obtain ⟨⟨xh, xv, xa⟩, hx⟩ : ∃ x, f.info k = x := ⟨_, rfl⟩
        rw [hx] at q0 q1 q2 q3 q4 q5
        simp only at q0 q1 q2 q3 q4 q5
        have hik := ok_info hok.out hkc
        rw [hx] at hik
        replace hx := Lib.hid hx
        replace hik := Lib.hid hik
        cases htl : f.tell k d with
        | false =>
            obtain ⟨e1, e2⟩ := told_no htl
            replace htl := Lib.hid htl
            replace e1 := Lib.hid e1
            replace e2 := Lib.hid e2
            have o_T_0 := T_wr.out.c (i := 0) rfl
            have o_T_1 := T_wr.out.c (i := 1) rfl
            have o_T_2 := T_wr.out.c (i := 2) rfl
            have o_T_3 := T_wr.out.c (i := 3) rfl
            go_wp2_with fail
            clear o_T_0 o_T_1 o_T_2 o_T_3
            obtain ⟨w6, hw6⟩ : ∃ W, W = wr.alloc (.cells #[.bool xh, .int .i64 xv.r, .int .i64 xv.c, .int .i64 xv.b, .int .i64 xv.p, .int .i64 xa] 49) := ⟨_, rfl⟩
            have bw6 : Below wr.heap.size wr w6 := by rw [hw6]; exact (Below.refl _ _).alloc (Nat.le_refl _) _
            have Xw6 : Bx w6 wr.heap.size 49 #[.bool xh, .int .i64 xv.r, .int .i64 xv.c, .int .i64 xv.b, .int .i64 xv.p, .int .i64 xa] := by rw [hw6]; exact Bx.new _ _ _ rfl
            rw [← hw6]
            clear hw6
            have T_w6 := Lib.hid (T_wr.out.below bw6)
            have A_w6 := Lib.hid (A_wr.out.below bw6)
            have BV_w6 := Lib.hid (BV_wr.out.below bw6)
            have BW_w6 := Lib.hid (BW0.out.below bw6)
            have BX_w6 := Lib.hid (Xw6)
            have z0_w6 : w.heap.size < w6.heap.size := Nat.lt_of_lt_of_le z0_wr bw6.size
            have z1_w6 : w4.heap.size < w6.heap.size := Nat.lt_of_lt_of_le z1_wr bw6.size
            have B_w6 := bt B_wr bw6
            clear T_wr A_wr BV_wr BW0 z0_wr z1_wr B_wr bw6
            have z2_w6 : wr.heap.size < w6.heap.size := Xw6.lt
            clear Xw6
            clear q0 q1 q2 q3 q4 q5 hbI
            go_at_call 10
            (with_reducible refine (ptell_to C hok.out hkc h1 h255 e1.out e2.out htl.out A_w6.out).mono ?_)
            rintro e w7 ⟨rfl, hb7⟩
            have T_w7 := Lib.hid (T_w6.out.below hb7)
            have A_w7 := Lib.hid (A_w6.out.below hb7)
            have BV_w7 := Lib.hid (BV_w6.out.below hb7)
            have BW_w7 := Lib.hid (BW_w6.out.below hb7)
            have BX_w7 := Lib.hid (BX_w6.out.below hb7)
            have z0_w7 : w.heap.size < w7.heap.size := Nat.lt_of_lt_of_le z0_w6 hb7.size
            have z1_w7 : w4.heap.size < w7.heap.size := Nat.lt_of_lt_of_le z1_w6 hb7.size
            have z2_w7 : wr.heap.size < w7.heap.size := Nat.lt_of_lt_of_le z2_w6 hb7.size
            have B_w7 := bt B_w6 hb7
            clear T_w6 A_w6 BV_w6 BW_w6 BX_w6 z0_w6 z1_w6 z2_w6 B_w6 hb7
            go_wp2_with fail
            obtain ⟨w8, hw8⟩ : ∃ W, W = w7.alloc (.cells #[.int .i64 0, .int .i64 0, .int .i64 0, .int .i64 0, .int .i64 0] 36) := ⟨_, rfl⟩
            have bw8 : Below w7.heap.size w7 w8 := by rw [hw8]; exact (Below.refl _ _).alloc (Nat.le_refl _) _
            have Xw8 : Bx w8 w7.heap.size 36 #[.int .i64 0, .int .i64 0, .int .i64 0, .int .i64 0, .int .i64 0] := by rw [hw8]; exact Bx.new _ _ _ rfl
            rw [← hw8]
            clear hw8
            have T_w8 := Lib.hid (T_w7.out.below bw8)
            have A_w8 := Lib.hid (A_w7.out.below bw8)
            have BV_w8 := Lib.hid (BV_w7.out.below bw8)
            have BW_w8 := Lib.hid (BW_w7.out.below bw8)
            have BX_w8 := Lib.hid (BX_w7.out.below bw8)
            have BC_w8 := Lib.hid (Xw8)
            have z0_w8 : w.heap.size < w8.heap.size := Nat.lt_of_lt_of_le z0_w7 bw8.size
            have z1_w8 : w4.heap.size < w8.heap.size := Nat.lt_of_lt_of_le z1_w7 bw8.size
            have z2_w8 : wr.heap.size < w8.heap.size := Nat.lt_of_lt_of_le z2_w7 bw8.size
            have B_w8 := bt B_w7 bw8
            clear T_w7 A_w7 BV_w7 BW_w7 BX_w7 z0_w7 z1_w7 z2_w7 B_w7 bw8
            have z3_w8 : w7.heap.size < w8.heap.size := Xw8.lt
            clear Xw8
            refine wp_region_quiet_below (by kernel_rfl) (by kernel_rfl) ?_
            repeat (first | go_big_quiet_step (fail) | quiet_step (fail))
            refine wpQuiet_nil ?_
            intro _ hw'
            obtain ⟨⟨dq, osq⟩, hw''⟩ := hw'
            subst hw''
            have hqw9 := below_regrown w8 dq osq
            generalize Go.Sort.grow (redrawn w8 dq) osq = w9 at *
            have T_w9 := Lib.hid (T_w8.out.below hqw9)
            have A_w9 := Lib.hid (A_w8.out.below hqw9)
            have BV_w9 := Lib.hid (BV_w8.out.below hqw9)
            have BW_w9 := Lib.hid (BW_w8.out.below hqw9)
            have BX_w9 := Lib.hid (BX_w8.out.below hqw9)
            have BC_w9 := Lib.hid (BC_w8.out.below hqw9)
            have z0_w9 : w.heap.size < w9.heap.size := Nat.lt_of_lt_of_le z0_w8 hqw9.size
            have z1_w9 : w4.heap.size < w9.heap.size := Nat.lt_of_lt_of_le z1_w8 hqw9.size
            have z2_w9 : wr.heap.size < w9.heap.size := Nat.lt_of_lt_of_le z2_w8 hqw9.size
            have z3_w9 : w7.heap.size < w9.heap.size := Nat.lt_of_lt_of_le z3_w8 hqw9.size
            have B_w9 := bt B_w8 hqw9
            clear T_w8 A_w8 BV_w8 BW_w8 BX_w8 BC_w8 z0_w8 z1_w8 z2_w8 z3_w8 B_w8 hqw9
            go_wp2_with fail
            go_roundw
            case rel => exact ⟨k + 1, by omega, by go_num, BW_w9.out.b⟩
            case measure => (simp [intOf]) <;> omega
        | true =>
            obtain ⟨e1, e2, hrole, hage⟩ := told_yes htl
            obtain ⟨hup, hroot⟩ := told_up hrole
            have hgood := fun h => told_good hrole h
            have htok := tells_ok hok.out hkc
            rw [tells_form, hv.out] at htok hgood
            rw [hv.out] at e1
            obtain ⟨ag, hag⟩ : ∃ a, f.age = a := ⟨_, rfl⟩
            rw [hag] at e2 hage
            have hnage : ¬ d ≤ ag := by omega
            have hupc := up_at hku
            rw [hup] at hupc
            obtain ⟨bU, oU, rfl, hbU, qU⟩ := BoolP.SlB.at_ A_wr.out.r.ups.sl hupc
            have QU := Lib.hid (Cel.mk hbU qU)
            rw [hx.out] at hgood
            have hne : ¬ (k : Int) = ri := fun e => by
              rcases root_ways (s := f) with ⟨_, e', _⟩ | ⟨b, hb, e', _, _⟩
              · have := hri.out; omega
              · have h9 := hri.out
                obtain rfl : k = b := by omega
                exact hroot hb
            replace hne : ((k : Int) == ri) = false := by simpa using hne
            replace hgood := Lib.hid hgood
            replace htok := Lib.hid htok
            replace hag := Lib.hid hag
            replace hup := Lib.hid hup
            replace hroot := Lib.hid hroot
            replace hrole := Lib.hid hrole
            replace htl := Lib.hid htl
            replace e1 := Lib.hid e1
            replace e2 := Lib.hid e2
            clear hupc hbU qU
            have o_T_0 := T_wr.out.c (i := 0) rfl
            have o_T_1 := T_wr.out.c (i := 1) rfl
            have o_T_2 := T_wr.out.c (i := 2) rfl
            have o_T_3 := T_wr.out.c (i := 3) rfl
            go_wp2_with fail
            clear o_T_0 o_T_1 o_T_2 o_T_3
            obtain ⟨w6, hw6⟩ : ∃ W, W = wr.alloc (.cells #[.bool xh, .int .i64 xv.r, .int .i64 xv.c, .int .i64 xv.b, .int .i64 xv.p, .int .i64 xa] 49) := ⟨_, rfl⟩
            have bw6 : Below wr.heap.size wr w6 := by rw [hw6]; exact (Below.refl _ _).alloc (Nat.le_refl _) _
            have Xw6 : Bx w6 wr.heap.size 49 #[.bool xh, .int .i64 xv.r, .int .i64 xv.c, .int .i64 xv.b, .int .i64 xv.p, .int .i64 xa] := by rw [hw6]; exact Bx.new _ _ _ rfl
            rw [← hw6]
            clear hw6
            have T_w6 := Lib.hid (T_wr.out.below bw6)
            have A_w6 := Lib.hid (A_wr.out.below bw6)
            have BV_w6 := Lib.hid (BV_wr.out.below bw6)
            have BW_w6 := Lib.hid (BW0.out.below bw6)
            have QU_w6 := Lib.hid (QU.out.below bw6)
            have BX_w6 := Lib.hid (Xw6)
            have z0_w6 : w.heap.size < w6.heap.size := Nat.lt_of_lt_of_le z0_wr bw6.size
            have z1_w6 : w4.heap.size < w6.heap.size := Nat.lt_of_lt_of_le z1_wr bw6.size
            have B_w6 := bt B_wr bw6
            clear T_wr A_wr BV_wr BW0 QU z0_wr z1_wr B_wr bw6
            have z2_w6 : wr.heap.size < w6.heap.size := Xw6.lt
            clear Xw6
            clear q0 q1 q2 q3 q4 q5 hbI
            go_at_call 10
            (with_reducible refine (ptell_to C hok.out hkc h1 h255 e1.out e2.out htl.out A_w6.out).mono ?_)
            rintro e w7 ⟨rfl, hb7⟩
            have T_w7 := Lib.hid (T_w6.out.below hb7)
            have A_w7 := Lib.hid (A_w6.out.below hb7)
            have BV_w7 := Lib.hid (BV_w6.out.below hb7)
            have BW_w7 := Lib.hid (BW_w6.out.below hb7)
            have QU_w7 := Lib.hid (QU_w6.out.below hb7)
            have BX_w7 := Lib.hid (BX_w6.out.below hb7)
            have z0_w7 : w.heap.size < w7.heap.size := Nat.lt_of_lt_of_le z0_w6 hb7.size
            have z1_w7 : w4.heap.size < w7.heap.size := Nat.lt_of_lt_of_le z1_w6 hb7.size
            have z2_w7 : wr.heap.size < w7.heap.size := Nat.lt_of_lt_of_le z2_w6 hb7.size
            have B_w7 := bt B_w6 hb7
            clear T_w6 A_w6 BV_w6 BW_w6 QU_w6 BX_w6 z0_w6 z1_w6 z2_w6 B_w6 hb7
            have qU := QU_w7.out.c
            have hbU := QU_w7.out.lt
            cases xh with
            | false =>
                have o_T_0 := T_w7.out.c (i := 0) rfl
                have o_T_1 := T_w7.out.c (i := 1) rfl
                have o_T_2 := T_w7.out.c (i := 2) rfl
                have o_T_3 := T_w7.out.c (i := 3) rfl
                have o_BV_0 := BV_w7.out.c (i := 0) rfl
                have o_BV_1 := BV_w7.out.c (i := 1) rfl
                have o_BV_2 := BV_w7.out.c (i := 2) rfl
                have o_BV_3 := BV_w7.out.c (i := 3) rfl
                have o_BX_0 := BX_w7.out.c (i := 0) rfl
                have o_BX_1 := BX_w7.out.c (i := 1) rfl
                have o_BX_2 := BX_w7.out.c (i := 2) rfl
                have o_BX_3 := BX_w7.out.c (i := 3) rfl
                have o_BX_4 := BX_w7.out.c (i := 4) rfl
                have o_BX_5 := BX_w7.out.c (i := 5) rfl
                go_wp2_with fail
                clear o_T_0 o_T_1 o_T_2 o_T_3 o_BV_0 o_BV_1 o_BV_2 o_BV_3 o_BX_0 o_BX_1 o_BX_2 o_BX_3 o_BX_4 o_BX_5
                obtain ⟨w8, hw8⟩ : ∃ W, W = w7.alloc (.cells #[.int .i64 v.r, .int .i64 v.c, .int .i64 f.id, .int .i64 (k : Int), .int .i64 ag] 36) := ⟨_, rfl⟩
                have bw8 : Below w7.heap.size w7 w8 := by rw [hw8]; exact (Below.refl _ _).alloc (Nat.le_refl _) _
                have Xw8 : Bx w8 w7.heap.size 36 #[.int .i64 v.r, .int .i64 v.c, .int .i64 f.id, .int .i64 (k : Int), .int .i64 ag] := by rw [hw8]; exact Bx.new _ _ _ rfl
                rw [← hw8]
                clear hw8
                have T_w8 := Lib.hid (T_w7.out.below bw8)
                have A_w8 := Lib.hid (A_w7.out.below bw8)
                have BV_w8 := Lib.hid (BV_w7.out.below bw8)
                have BW_w8 := Lib.hid (BW_w7.out.below bw8)
                have QU_w8 := Lib.hid (QU_w7.out.below bw8)
                have BX_w8 := Lib.hid (BX_w7.out.below bw8)
                have BC_w8 := Lib.hid (Xw8)
                have z0_w8 : w.heap.size < w8.heap.size := Nat.lt_of_lt_of_le z0_w7 bw8.size
                have z1_w8 : w4.heap.size < w8.heap.size := Nat.lt_of_lt_of_le z1_w7 bw8.size
                have z2_w8 : wr.heap.size < w8.heap.size := Nat.lt_of_lt_of_le z2_w7 bw8.size
                have B_w8 := bt B_w7 bw8
                clear T_w7 A_w7 BV_w7 BW_w7 QU_w7 BX_w7 z0_w7 z1_w7 z2_w7 B_w7 bw8
                have z3_w8 : w7.heap.size < w8.heap.size := Xw8.lt
                clear Xw8
                rcases root_ways (s := f) with ⟨_, f1, f2⟩ | ⟨b, _, f1, f2, f3⟩
                · obtain rfl : ri = -1 := by rw [← hri.out]; exact f1
                  obtain rfl : ag = 0 := by rw [← hag.out]; exact f2
                  clear f1 f2
                  have K_T_0 := cell_regrown (T_w8.out.c (i := 0) rfl)
                  have K_T_1 := cell_regrown (T_w8.out.c (i := 1) rfl)
                  have K_T_2 := cell_regrown (T_w8.out.c (i := 2) rfl)
                  have K_T_3 := cell_regrown (T_w8.out.c (i := 3) rfl)
                  have K_BC_0 := cell_regrown (BC_w8.out.c (i := 0) rfl)
                  have K_BC_1 := cell_regrown (BC_w8.out.c (i := 1) rfl)
                  have K_BC_2 := cell_regrown (BC_w8.out.c (i := 2) rfl)
                  have K_BC_3 := cell_regrown (BC_w8.out.c (i := 3) rfl)
                  have K_BC_4 := cell_regrown (BC_w8.out.c (i := 4) rfl)
                  refine wp_region_quiet_below (by kernel_rfl) (by kernel_rfl) ?_
                  repeat (first | go_big_quiet_step (fail) | quiet_step (fail))
                  refine wpQuiet_nil ?_
                  intro _ hw'
                  obtain ⟨⟨dq, osq⟩, hw''⟩ := hw'
                  subst hw''
                  have hqw9 := below_regrown w8 dq osq
                  clear K_T_0 K_T_1 K_T_2 K_T_3 K_BC_0 K_BC_1 K_BC_2 K_BC_3 K_BC_4
                  generalize Go.Sort.grow (redrawn w8 dq) osq = w9 at *
                  have T_w9 := Lib.hid (T_w8.out.below hqw9)
                  have A_w9 := Lib.hid (A_w8.out.below hqw9)
                  have BV_w9 := Lib.hid (BV_w8.out.below hqw9)
                  have BW_w9 := Lib.hid (BW_w8.out.below hqw9)
                  have QU_w9 := Lib.hid (QU_w8.out.below hqw9)
                  have BX_w9 := Lib.hid (BX_w8.out.below hqw9)
                  have BC_w9 := Lib.hid (BC_w8.out.below hqw9)
                  have z0_w9 : w.heap.size < w9.heap.size := Nat.lt_of_lt_of_le z0_w8 hqw9.size
                  have z1_w9 : w4.heap.size < w9.heap.size := Nat.lt_of_lt_of_le z1_w8 hqw9.size
                  have z2_w9 : wr.heap.size < w9.heap.size := Nat.lt_of_lt_of_le z2_w8 hqw9.size
                  have z3_w9 : w7.heap.size < w9.heap.size := Nat.lt_of_lt_of_le z3_w8 hqw9.size
                  have B_w9 := bt B_w8 hqw9
                  clear T_w8 A_w8 BV_w8 BW_w8 QU_w8 BX_w8 BC_w8 z0_w8 z1_w8 z2_w8 z3_w8 B_w8 hqw9
                  go_wp2_with fail
                  go_roundw
                  case rel => exact ⟨k + 1, by omega, by go_num, BW_w9.out.b⟩
                  case measure => (simp [intOf]) <;> omega
                · obtain rfl : ri = (b : Int) := by rw [← hri.out]; exact f1
                  have hy := f3.symm.trans hag.out |>.symm.symm
                  obtain ⟨bJ, oJ, e9, hbJ, p0, p1, p2, p3, p4, p5⟩ := SlN.at_ A_w8.out.r.infos.sl (info_at f2)
                  obtain ⟨rfl, rfl⟩ : bI = bJ ∧ oI = oJ := by simpa using e9
                  have hyb := (ok_info hok.out (p := b) (by have := hl3.out; omega)).1
                  generalize (f.info b).age = y at *
                  obtain ⟨hy1, hy2⟩ := hyb
                  have hb0 : ¬ (b : Int) < 0 := by omega
                  have hb1 : (0 : Int) ≤ (b : Int) := by omega
                  have hb2 : (b : Int) < (f.infos.length : Int) := by omega
                  clear p0 p1 p2 p3 p4 e9 f1 f3
                  have K_q := cell_regrown p5
                  clear p5
                  have K_T_0 := cell_regrown (T_w8.out.c (i := 0) rfl)
                  have K_T_1 := cell_regrown (T_w8.out.c (i := 1) rfl)
                  have K_T_2 := cell_regrown (T_w8.out.c (i := 2) rfl)
                  have K_T_3 := cell_regrown (T_w8.out.c (i := 3) rfl)
                  have K_BC_0 := cell_regrown (BC_w8.out.c (i := 0) rfl)
                  have K_BC_1 := cell_regrown (BC_w8.out.c (i := 1) rfl)
                  have K_BC_2 := cell_regrown (BC_w8.out.c (i := 2) rfl)
                  have K_BC_3 := cell_regrown (BC_w8.out.c (i := 3) rfl)
                  have K_BC_4 := cell_regrown (BC_w8.out.c (i := 4) rfl)
                  refine wp_region_quiet_below (by kernel_rfl) (by kernel_rfl) ?_
                  repeat (first | go_big_quiet_step (fail) | quiet_step (fail))
                  refine wpQuiet_nil ?_
                  intro _ hw'
                  obtain ⟨⟨dq, osq⟩, hw''⟩ := hw'
                  subst hw''
                  have hqw9 := below_regrown w8 dq osq
                  clear K_T_0 K_T_1 K_T_2 K_T_3 K_BC_0 K_BC_1 K_BC_2 K_BC_3 K_BC_4
                  generalize Go.Sort.grow (redrawn w8 dq) osq = w9 at *
                  have T_w9 := Lib.hid (T_w8.out.below hqw9)
                  have A_w9 := Lib.hid (A_w8.out.below hqw9)
                  have BV_w9 := Lib.hid (BV_w8.out.below hqw9)
                  have BW_w9 := Lib.hid (BW_w8.out.below hqw9)
                  have QU_w9 := Lib.hid (QU_w8.out.below hqw9)
                  have BX_w9 := Lib.hid (BX_w8.out.below hqw9)
                  have BC_w9 := Lib.hid (BC_w8.out.below hqw9)
                  have z0_w9 : w.heap.size < w9.heap.size := Nat.lt_of_lt_of_le z0_w8 hqw9.size
                  have z1_w9 : w4.heap.size < w9.heap.size := Nat.lt_of_lt_of_le z1_w8 hqw9.size
                  have z2_w9 : wr.heap.size < w9.heap.size := Nat.lt_of_lt_of_le z2_w8 hqw9.size
                  have z3_w9 : w7.heap.size < w9.heap.size := Nat.lt_of_lt_of_le z3_w8 hqw9.size
                  have B_w9 := bt B_w8 hqw9
                  clear T_w8 A_w8 BV_w8 BW_w8 QU_w8 BX_w8 BC_w8 z0_w8 z1_w8 z2_w8 z3_w8 B_w8 hqw9
                  clear K_q
                  go_wp2_with fail
                  go_roundw
                  case rel => exact ⟨k + 1, by omega, by go_num, BW_w9.out.b⟩
                  case measure => (simp [intOf]) <;> omega
            | true =>
                have hxo := Lib.hid (hik.out.2.1 rfl).2
                replace hgood := Lib.hid (hgood.out rfl)
                have o_T_0 := T_w7.out.c (i := 0) rfl
                have o_T_1 := T_w7.out.c (i := 1) rfl
                have o_T_2 := T_w7.out.c (i := 2) rfl
                have o_T_3 := T_w7.out.c (i := 3) rfl
                have o_BV_0 := BV_w7.out.c (i := 0) rfl
                have o_BV_1 := BV_w7.out.c (i := 1) rfl
                have o_BV_2 := BV_w7.out.c (i := 2) rfl
                have o_BV_3 := BV_w7.out.c (i := 3) rfl
                have o_BX_0 := BX_w7.out.c (i := 0) rfl
                have o_BX_1 := BX_w7.out.c (i := 1) rfl
                have o_BX_2 := BX_w7.out.c (i := 2) rfl
                have o_BX_3 := BX_w7.out.c (i := 3) rfl
                have o_BX_4 := BX_w7.out.c (i := 4) rfl
                have o_BX_5 := BX_w7.out.c (i := 5) rfl
                go_wp2_with fail
                clear o_T_0 o_T_1 o_T_2 o_T_3 o_BV_0 o_BV_1 o_BV_2 o_BV_3 o_BX_0 o_BX_1 o_BX_2 o_BX_3 o_BX_4 o_BX_5
                obtain ⟨w8, hw8⟩ : ∃ W, W = w7.alloc (.cells #[.int .i64 v.r, .int .i64 v.c, .int .i64 f.id, .int .i64 (k : Int), .int .i64 ag] 36) := ⟨_, rfl⟩
                have bw8 : Below w7.heap.size w7 w8 := by rw [hw8]; exact (Below.refl _ _).alloc (Nat.le_refl _) _
                have Xw8 : Bx w8 w7.heap.size 36 #[.int .i64 v.r, .int .i64 v.c, .int .i64 f.id, .int .i64 (k : Int), .int .i64 ag] := by rw [hw8]; exact Bx.new _ _ _ rfl
                rw [← hw8]
                clear hw8
                have T_w8 := Lib.hid (T_w7.out.below bw8)
                have A_w8 := Lib.hid (A_w7.out.below bw8)
                have BV_w8 := Lib.hid (BV_w7.out.below bw8)
                have BW_w8 := Lib.hid (BW_w7.out.below bw8)
                have QU_w8 := Lib.hid (QU_w7.out.below bw8)
                have BX_w8 := Lib.hid (BX_w7.out.below bw8)
                have BC_w8 := Lib.hid (Xw8)
                have z0_w8 : w.heap.size < w8.heap.size := Nat.lt_of_lt_of_le z0_w7 bw8.size
                have z1_w8 : w4.heap.size < w8.heap.size := Nat.lt_of_lt_of_le z1_w7 bw8.size
                have z2_w8 : wr.heap.size < w8.heap.size := Nat.lt_of_lt_of_le z2_w7 bw8.size
                have B_w8 := bt B_w7 bw8
                clear T_w7 A_w7 BV_w7 BW_w7 QU_w7 BX_w7 z0_w7 z1_w7 z2_w7 B_w7 bw8
                have z3_w8 : w7.heap.size < w8.heap.size := Xw8.lt
                clear Xw8
                go_at_call 20
                (with_reducible refine (better_to hxo.out htok.out hgood.out _).mono ?_)
                rintro e w9 ⟨rfl, hb9⟩
                have T_w9 := Lib.hid (T_w8.out.below hb9)
                have A_w9 := Lib.hid (A_w8.out.below hb9)
                have BV_w9 := Lib.hid (BV_w8.out.below hb9)
                have BW_w9 := Lib.hid (BW_w8.out.below hb9)
                have QU_w9 := Lib.hid (QU_w8.out.below hb9)
                have BX_w9 := Lib.hid (BX_w8.out.below hb9)
                have BC_w9 := Lib.hid (BC_w8.out.below hb9)
                have z0_w9 : w.heap.size < w9.heap.size := Nat.lt_of_lt_of_le z0_w8 hb9.size
                have z1_w9 : w4.heap.size < w9.heap.size := Nat.lt_of_lt_of_le z1_w8 hb9.size
                have z2_w9 : wr.heap.size < w9.heap.size := Nat.lt_of_lt_of_le z2_w8 hb9.size
                have z3_w9 : w7.heap.size < w9.heap.size := Nat.lt_of_lt_of_le z3_w8 hb9.size
                have B_w9 := bt B_w8 hb9
                clear T_w8 A_w8 BV_w8 BW_w8 QU_w8 BX_w8 BC_w8 z0_w8 z1_w8 z2_w8 z3_w8 B_w8 hb9
                go_wp2_with fail
                rcases root_ways (s := f) with ⟨_, f1, f2⟩ | ⟨b, _, f1, f2, f3⟩
                · obtain rfl : ri = -1 := by rw [← hri.out]; exact f1
                  obtain rfl : ag = 0 := by rw [← hag.out]; exact f2
                  clear f1 f2
                  have K_T_0 := cell_regrown (T_w9.out.c (i := 0) rfl)
                  have K_T_1 := cell_regrown (T_w9.out.c (i := 1) rfl)
                  have K_T_2 := cell_regrown (T_w9.out.c (i := 2) rfl)
                  have K_T_3 := cell_regrown (T_w9.out.c (i := 3) rfl)
                  have K_BC_0 := cell_regrown (BC_w9.out.c (i := 0) rfl)
                  have K_BC_1 := cell_regrown (BC_w9.out.c (i := 1) rfl)
                  have K_BC_2 := cell_regrown (BC_w9.out.c (i := 2) rfl)
                  have K_BC_3 := cell_regrown (BC_w9.out.c (i := 3) rfl)
                  have K_BC_4 := cell_regrown (BC_w9.out.c (i := 4) rfl)
                  refine wp_region_quiet_below (by kernel_rfl) (by kernel_rfl) ?_
                  repeat (first | go_big_quiet_step (fail) | quiet_step (fail))
                  refine wpQuiet_nil ?_
                  intro _ hw'
                  obtain ⟨⟨dq, osq⟩, hw''⟩ := hw'
                  subst hw''
                  have hqw10 := below_regrown w9 dq osq
                  clear K_T_0 K_T_1 K_T_2 K_T_3 K_BC_0 K_BC_1 K_BC_2 K_BC_3 K_BC_4
                  generalize Go.Sort.grow (redrawn w9 dq) osq = w10 at *
                  have T_w10 := Lib.hid (T_w9.out.below hqw10)
                  have A_w10 := Lib.hid (A_w9.out.below hqw10)
                  have BV_w10 := Lib.hid (BV_w9.out.below hqw10)
                  have BW_w10 := Lib.hid (BW_w9.out.below hqw10)
                  have QU_w10 := Lib.hid (QU_w9.out.below hqw10)
                  have BX_w10 := Lib.hid (BX_w9.out.below hqw10)
                  have BC_w10 := Lib.hid (BC_w9.out.below hqw10)
                  have z0_w10 : w.heap.size < w10.heap.size := Nat.lt_of_lt_of_le z0_w9 hqw10.size
                  have z1_w10 : w4.heap.size < w10.heap.size := Nat.lt_of_lt_of_le z1_w9 hqw10.size
                  have z2_w10 : wr.heap.size < w10.heap.size := Nat.lt_of_lt_of_le z2_w9 hqw10.size
                  have z3_w10 : w7.heap.size < w10.heap.size := Nat.lt_of_lt_of_le z3_w9 hqw10.size
                  have B_w10 := bt B_w9 hqw10
                  clear T_w9 A_w9 BV_w9 BW_w9 QU_w9 BX_w9 BC_w9 z0_w9 z1_w9 z2_w9 z3_w9 B_w9 hqw10
                  go_wp2_with fail
                  go_roundw
                  case rel => exact ⟨k + 1, by omega, by go_num, BW_w10.out.b⟩
                  case measure => (simp [intOf]) <;> omega
                · obtain rfl : ri = (b : Int) := by rw [← hri.out]; exact f1
                  have hy := f3.symm.trans hag.out |>.symm.symm
                  obtain ⟨bJ, oJ, e9, hbJ, p0, p1, p2, p3, p4, p5⟩ := SlN.at_ A_w9.out.r.infos.sl (info_at f2)
                  obtain ⟨rfl, rfl⟩ : bI = bJ ∧ oI = oJ := by simpa using e9
                  have hyb := (ok_info hok.out (p := b) (by have := hl3.out; omega)).1
                  generalize (f.info b).age = y at *
                  obtain ⟨hy1, hy2⟩ := hyb
                  have hb0 : ¬ (b : Int) < 0 := by omega
                  have hb1 : (0 : Int) ≤ (b : Int) := by omega
                  have hb2 : (b : Int) < (f.infos.length : Int) := by omega
                  clear p0 p1 p2 p3 p4 e9 f1 f3
                  have K_q := cell_regrown p5
                  clear p5
                  have K_T_0 := cell_regrown (T_w9.out.c (i := 0) rfl)
                  have K_T_1 := cell_regrown (T_w9.out.c (i := 1) rfl)
                  have K_T_2 := cell_regrown (T_w9.out.c (i := 2) rfl)
                  have K_T_3 := cell_regrown (T_w9.out.c (i := 3) rfl)
                  have K_BC_0 := cell_regrown (BC_w9.out.c (i := 0) rfl)
                  have K_BC_1 := cell_regrown (BC_w9.out.c (i := 1) rfl)
                  have K_BC_2 := cell_regrown (BC_w9.out.c (i := 2) rfl)
                  have K_BC_3 := cell_regrown (BC_w9.out.c (i := 3) rfl)
                  have K_BC_4 := cell_regrown (BC_w9.out.c (i := 4) rfl)
                  refine wp_region_quiet_below (by kernel_rfl) (by kernel_rfl) ?_
                  repeat (first | go_big_quiet_step (fail) | quiet_step (fail))
                  refine wpQuiet_nil ?_
                  intro _ hw'
                  obtain ⟨⟨dq, osq⟩, hw''⟩ := hw'
                  subst hw''
                  have hqw10 := below_regrown w9 dq osq
                  clear K_T_0 K_T_1 K_T_2 K_T_3 K_BC_0 K_BC_1 K_BC_2 K_BC_3 K_BC_4
                  generalize Go.Sort.grow (redrawn w9 dq) osq = w10 at *
                  have T_w10 := Lib.hid (T_w9.out.below hqw10)
                  have A_w10 := Lib.hid (A_w9.out.below hqw10)
                  have BV_w10 := Lib.hid (BV_w9.out.below hqw10)
                  have BW_w10 := Lib.hid (BW_w9.out.below hqw10)
                  have QU_w10 := Lib.hid (QU_w9.out.below hqw10)
                  have BX_w10 := Lib.hid (BX_w9.out.below hqw10)
                  have BC_w10 := Lib.hid (BC_w9.out.below hqw10)
                  have z0_w10 : w.heap.size < w10.heap.size := Nat.lt_of_lt_of_le z0_w9 hqw10.size
                  have z1_w10 : w4.heap.size < w10.heap.size := Nat.lt_of_lt_of_le z1_w9 hqw10.size
                  have z2_w10 : wr.heap.size < w10.heap.size := Nat.lt_of_lt_of_le z2_w9 hqw10.size
                  have z3_w10 : w7.heap.size < w10.heap.size := Nat.lt_of_lt_of_le z3_w9 hqw10.size
                  have B_w10 := bt B_w9 hqw10
                  clear T_w9 A_w9 BV_w9 BW_w9 QU_w9 BX_w9 BC_w9 z0_w9 z1_w9 z2_w9 z3_w9 B_w9 hqw10
                  clear K_q
                  go_wp2_with fail
                  go_roundw
                  case rel => exact ⟨k + 1, by omega, by go_num, BW_w10.out.b⟩
                  case measure => (simp [intOf]) <;> omega
      · obtain rfl : k = f.infos.length := by omega
        go_wp2_with fail
        go_at_call 13
        (with_reducible refine (alive_any C _).mono ?_)
        rintro e w6 ⟨rfl, hb6⟩
        have T_w6 := Lib.hid (T_wr.out.below hb6)
        have A_w6 := Lib.hid (A_wr.out.below hb6)
        have BV_w6 := Lib.hid (BV_wr.out.below hb6)
        have BW_w6 := Lib.hid (BW0.out.below hb6)
        have z0_w6 : w.heap.size < w6.heap.size := Nat.lt_of_lt_of_le z0_wr hb6.size
        have z1_w6 : w4.heap.size < w6.heap.size := Nat.lt_of_lt_of_le z1_wr hb6.size
        have B_w6 := bt B_wr hb6
        clear T_wr A_wr BV_wr BW0 z0_wr z1_wr B_wr hb6
        go_wp2_with fail
        go_ret
        exact ⟨rfl, B_w6⟩
end Go.Proofs.Ytdnpcpehjjildaa.RoleP
