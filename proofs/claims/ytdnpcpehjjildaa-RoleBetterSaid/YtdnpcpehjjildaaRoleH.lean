/-
  RoleRoot, by the contracts of role's own functions.
-/
import Derived.Test.YtdnpcpehjjildaaRoleL
import Derived.Test.YtdnpcpehjjildaaRegLit
namespace Go.Proofs.Ytdnpcpehjjildaa.RoleP
open Go.Proofs.Ytdnpcpehjjildaa.MacP (arr_out Wrote)
open Go.RowKit Go.Sort Go.Proofs.Ytdnpcpehjjildaa.SliceP Go.Proofs.Ytdnpcpehjjildaa.BoxP Go.Proofs.Ytdnpcpehjjildaa.VecP
open Go.Proofs.Ytdnpcpehjjildaa.IntP (RowI SlI OwnI)
open Go.Proofs.Ytdnpcpehjjildaa.BoolP (RowB SlB)
set_option linter.unusedVariables false
set_option maxRecDepth 100000
theorem arr4 (cs : Array Value) (h : cs.size = 4) : ∃ v0 v1 v2 v3, cs = #[v0, v1, v2, v3] := by
  have e := arr_out cs 4 h
  exact ⟨_, _, _, _, e⟩
set_option maxHeartbeats 64000000 in
theorem root_law (C : RoleC) {s : S} {AC : Option Addr} {cC : Nat} {AU : Option Addr} {cU : Nat} {AI : Option Addr} {cI : Nat} {w : World} (hS : SelfR w s AC cC AU cU AI cI) (hk : cC ≤ 9223372036854775807 ∧ cU ≤ 9223372036854775807 ∧ cI ≤ 9223372036854775807) :
    Calls Try.prog 4 #[selfV s.id (.slice AC s.costs.length cC) (.slice AU s.ups.length cU) (.slice AI s.infos.length cI)] w (True1 w) := by
  go_enter Try.func4, Try.ntmps4
  have S0 := Lib.hid hS
  go_wp2_with fail
  obtain ⟨w1, hw1⟩ : ∃ W, W = w.alloc (.cells #[.int .i64 s.id, .slice AC s.costs.length cC, .slice AU s.ups.length cU, .slice AI s.infos.length cI] 26) := ⟨_, rfl⟩
  have bw1 : Below w.heap.size w w1 := by rw [hw1]; exact (Below.refl _ _).alloc (Nat.le_refl _) _
  have Xw1 : Bx w1 w.heap.size 26 #[.int .i64 s.id, .slice AC s.costs.length cC, .slice AU s.ups.length cU, .slice AI s.infos.length cI] := by rw [hw1]; exact Bx.new _ _ _ rfl
  rw [← hw1]
  clear hw1
  have S_w1 := Lib.hid (S0.out.below bw1)
  have T0_w1 := Lib.hid (Xw1)
  clear S0
  have z0_w1 : w.heap.size < w1.heap.size := Xw1.lt
  clear Xw1
  go_at_call 7
  (with_reducible refine (few_any S_w1.out hk.1 hk.2.1 hk.2.2).mono ?_)
  rintro e w2 ⟨rfl, hb2⟩
  have S_w2 := Lib.hid (S_w1.out.below hb2)
  have T0_w2 := Lib.hid (T0_w1.out.below hb2)
  have z0_w2 : w.heap.size < w2.heap.size := Nat.lt_of_lt_of_le z0_w1 hb2.size
  have B_w2 := bt bw1 hb2
  clear S_w1 T0_w1 z0_w1 bw1 hb2
  have o_T0_0 := T0_w2.out.c (i := 0) rfl
  have o_T0_1 := T0_w2.out.c (i := 1) rfl
  have o_T0_2 := T0_w2.out.c (i := 2) rfl
  have o_T0_3 := T0_w2.out.c (i := 3) rfl
  have p_T0_0 := T0_w2.out.f 0
  have p_T0_1 := T0_w2.out.f 1
  have p_T0_2 := T0_w2.out.f 2
  have p_T0_3 := T0_w2.out.f 3
  go_upto_region 2 with fail
  clear o_T0_0 o_T0_1 o_T0_2 o_T0_3 p_T0_0 p_T0_1 p_T0_2 p_T0_3
  obtain ⟨w3, hw3⟩ : ∃ W, W = ((((w2.setCell ⟨w.heap.size, 0, none⟩ (.int .i64 (few s).id)).setCell ⟨w.heap.size, 1, none⟩ (.slice AC (few s).costs.length cC)).setCell ⟨w.heap.size, 2, none⟩ (.slice AU (few s).ups.length cU)).setCell ⟨w.heap.size, 3, none⟩ (.slice AI (few s).infos.length cI)) := ⟨_, rfl⟩
  have T3 := Lib.hid (show Bx w3 w.heap.size 26 #[.int .i64 (few s).id, .slice AC (few s).costs.length cC, .slice AU (few s).ups.length cU, .slice AI (few s).infos.length cI] by rw [hw3]; exact Bx.set4 T0_w2.out)
  have B3 : Below w.heap.size w w3 := by rw [hw3]; exact below4 B_w2 (Nat.le_refl _) _ _ _ _
  have A3 := Lib.hid (Arg.new hS B3 hk)
  have z3 : w.heap.size < w3.heap.size := T3.out.lt
  rw [← hw3]
  clear hw3 S_w2 T0_w2 B_w2 z0_w2 hS hk
  generalize few s = f at *
  cases hok : f.ok with
  | false =>
    replace hok := Lib.hid hok
    have o_T_0 := T3.out.c (i := 0) rfl
    have o_T_1 := T3.out.c (i := 1) rfl
    have o_T_2 := T3.out.c (i := 2) rfl
    have o_T_3 := T3.out.c (i := 3) rfl
    go_wp2_with fail
    clear o_T_0 o_T_1 o_T_2 o_T_3
    go_at_call 8
    (with_reducible refine (C.root_no hok.out A3.out).mono ?_)
    rintro e w4 ⟨rfl, hb4⟩
    have T_w4 := Lib.hid (T3.out.below hb4)
    have A_w4 := Lib.hid (A3.out.below hb4)
    have z0_w4 : w.heap.size < w4.heap.size := Nat.lt_of_lt_of_le z3 hb4.size
    have B_w4 := bt B3 hb4
    clear T3 A3 z3 B3 hb4
    have o_T_0 := T_w4.out.c (i := 0) rfl
    have o_T_1 := T_w4.out.c (i := 1) rfl
    have o_T_2 := T_w4.out.c (i := 2) rfl
    have o_T_3 := T_w4.out.c (i := 3) rfl
    go_wp2_with fail
    clear o_T_0 o_T_1 o_T_2 o_T_3
    obtain ⟨w5, hw5⟩ : ∃ W, W = w4.alloc (.cells #[.int .i64 0, .int .i64 0, .int .i64 0, .int .i64 0] 29) := ⟨_, rfl⟩
    have bw5 : Below w4.heap.size w4 w5 := by rw [hw5]; exact (Below.refl _ _).alloc (Nat.le_refl _) _
    have Xw5 : Bx w5 w4.heap.size 29 #[.int .i64 0, .int .i64 0, .int .i64 0, .int .i64 0] := by rw [hw5]; exact Bx.new _ _ _ rfl
    rw [← hw5]
    clear hw5
    have T_w5 := Lib.hid (T_w4.out.below bw5)
    have A_w5 := Lib.hid (A_w4.out.below bw5)
    have BV_w5 := Lib.hid (Xw5)
    have z0_w5 : w.heap.size < w5.heap.size := Nat.lt_of_lt_of_le z0_w4 bw5.size
    have B_w5 := bt B_w4 bw5
    clear T_w4 A_w4 z0_w4 B_w4 bw5
    have z1_w5 : w4.heap.size < w5.heap.size := Xw5.lt
    clear Xw5
    go_at_call 9
    (with_reducible refine (C.roles_no hok.out A_w5.out).mono ?_)
    rintro e w6 ⟨A1, c1, rfl, hb6⟩
    have T_w6 := Lib.hid (T_w5.out.below hb6)
    have A_w6 := Lib.hid (A_w5.out.below hb6)
    have BV_w6 := Lib.hid (BV_w5.out.below hb6)
    have z0_w6 : w.heap.size < w6.heap.size := Nat.lt_of_lt_of_le z0_w5 hb6.size
    have z1_w6 : w4.heap.size < w6.heap.size := Nat.lt_of_lt_of_le z1_w5 hb6.size
    have B_w6 := bt B_w5 hb6
    clear T_w5 A_w5 BV_w5 z0_w5 z1_w5 B_w5 hb6
    go_wp2_with fail
    go_at_call 13
    (with_reducible refine (alive_any C _).mono ?_)
    rintro e w7 ⟨rfl, hb7⟩
    have T_w7 := Lib.hid (T_w6.out.below hb7)
    have A_w7 := Lib.hid (A_w6.out.below hb7)
    have BV_w7 := Lib.hid (BV_w6.out.below hb7)
    have z0_w7 : w.heap.size < w7.heap.size := Nat.lt_of_lt_of_le z0_w6 hb7.size
    have z1_w7 : w4.heap.size < w7.heap.size := Nat.lt_of_lt_of_le z1_w6 hb7.size
    have B_w7 := bt B_w6 hb7
    clear T_w6 A_w6 BV_w6 z0_w6 z1_w6 B_w6 hb7
    go_wp2_with fail
    go_ret
    exact ⟨rfl, B_w7⟩
  | true =>
    obtain ⟨hid, hlen, hl2, hl3⟩ := ok_lens hok
    obtain ⟨vr, hvr⟩ : ∃ v, (f.tells 0).r = v := ⟨_, rfl⟩
    obtain ⟨vc, hvc⟩ : ∃ v, (f.tells 0).c = v := ⟨_, rfl⟩
    have hv := tells_form (s := f) 0
    rw [hvr, hvc] at hv
    obtain ⟨ri, hri⟩ : ∃ n, f.rootI = n := ⟨_, rfl⟩
    have hr1 : ¬ ri < -1 := by rcases root_ways (s := f) with ⟨_, e, _⟩ | ⟨b, _, e, _, _⟩ <;> omega
    have hr2 : ¬ (f.costs.length : Int) ≤ ri := by rcases root_ways (s := f) with ⟨_, e, _⟩ | ⟨b, _, e, _, _⟩ <;> omega
    have hi3 : (f.infos.length : Int) = (f.costs.length : Int) := by omega
    have hi4 : (f.roles.length : Int) = (f.costs.length : Int) := by rw [roles_len]
    replace hok := Lib.hid hok
    replace hv := Lib.hid hv
    replace hvr := Lib.hid hvr
    replace hvc := Lib.hid hvc
    replace hri := Lib.hid hri
    replace hl2 := Lib.hid hl2
    replace hl3 := Lib.hid hl3
    have o_T_0 := T3.out.c (i := 0) rfl
    have o_T_1 := T3.out.c (i := 1) rfl
    have o_T_2 := T3.out.c (i := 2) rfl
    have o_T_3 := T3.out.c (i := 3) rfl
    go_wp2_with fail
    clear o_T_0 o_T_1 o_T_2 o_T_3
    go_at_call 8
    (with_reducible refine (root_ok_to C hok.out hv.out hri.out A3.out).mono ?_)
    rintro e w4 ⟨rfl, hb4⟩
    have T_w4 := Lib.hid (T3.out.below hb4)
    have A_w4 := Lib.hid (A3.out.below hb4)
    have z0_w4 : w.heap.size < w4.heap.size := Nat.lt_of_lt_of_le z3 hb4.size
    have B_w4 := bt B3 hb4
    clear T3 A3 z3 B3 hb4
    have o_T_0 := T_w4.out.c (i := 0) rfl
    have o_T_1 := T_w4.out.c (i := 1) rfl
    have o_T_2 := T_w4.out.c (i := 2) rfl
    have o_T_3 := T_w4.out.c (i := 3) rfl
    go_wp2_with fail
    clear o_T_0 o_T_1 o_T_2 o_T_3
    obtain ⟨w5, hw5⟩ : ∃ W, W = w4.alloc (.cells #[.int .i64 vr, .int .i64 vc, .int .i64 f.id, .int .i64 0] 29) := ⟨_, rfl⟩
    have bw5 : Below w4.heap.size w4 w5 := by rw [hw5]; exact (Below.refl _ _).alloc (Nat.le_refl _) _
    have Xw5 : Bx w5 w4.heap.size 29 #[.int .i64 vr, .int .i64 vc, .int .i64 f.id, .int .i64 0] := by rw [hw5]; exact Bx.new _ _ _ rfl
    rw [← hw5]
    clear hw5
    have T_w5 := Lib.hid (T_w4.out.below bw5)
    have A_w5 := Lib.hid (A_w4.out.below bw5)
    have BV_w5 := Lib.hid (Xw5)
    have z0_w5 : w.heap.size < w5.heap.size := Nat.lt_of_lt_of_le z0_w4 bw5.size
    have B_w5 := bt B_w4 bw5
    clear T_w4 A_w4 z0_w4 B_w4 bw5
    have z1_w5 : w4.heap.size < w5.heap.size := Xw5.lt
    clear Xw5
    go_at_call 9
    (with_reducible refine (C.roles_ok hok.out A_w5.out).mono ?_)
    rintro e w6 ⟨A1, c1, rfl, R1, hb6⟩
    have T_w6 := Lib.hid (T_w5.out.below hb6)
    have A_w6 := Lib.hid (A_w5.out.below hb6)
    have BV_w6 := Lib.hid (BV_w5.out.below hb6)
    have R_w6 := Lib.hid (R1)
    have z0_w6 : w.heap.size < w6.heap.size := Nat.lt_of_lt_of_le z0_w5 hb6.size
    have z1_w6 : w4.heap.size < w6.heap.size := Nat.lt_of_lt_of_le z1_w5 hb6.size
    have B_w6 := bt B_w5 hb6
    clear T_w5 A_w5 BV_w5 z0_w5 z1_w5 B_w5 hb6
    clear R1
    have o_T_0 := T_w6.out.c (i := 0) rfl
    have o_T_1 := T_w6.out.c (i := 1) rfl
    have o_T_2 := T_w6.out.c (i := 2) rfl
    have o_T_3 := T_w6.out.c (i := 3) rfl
    have o_BV_0 := BV_w6.out.c (i := 0) rfl
    have o_BV_1 := BV_w6.out.c (i := 1) rfl
    have o_BV_2 := BV_w6.out.c (i := 2) rfl
    have o_BV_3 := BV_w6.out.c (i := 3) rfl
    go_wp2_with fail
    clear o_T_0 o_T_1 o_T_2 o_T_3 o_BV_0 o_BV_1 o_BV_2 o_BV_3
    go_at_call 13
    (with_reducible refine (alive_any C _).mono ?_)
    rintro e w7 ⟨rfl, hb7⟩
    have T_w7 := Lib.hid (T_w6.out.below hb7)
    have A_w7 := Lib.hid (A_w6.out.below hb7)
    have BV_w7 := Lib.hid (BV_w6.out.below hb7)
    have R_w7 := Lib.hid (R_w6.out.below hb7)
    have z0_w7 : w.heap.size < w7.heap.size := Nat.lt_of_lt_of_le z0_w6 hb7.size
    have z1_w7 : w4.heap.size < w7.heap.size := Nat.lt_of_lt_of_le z1_w6 hb7.size
    have B_w7 := bt B_w6 hb7
    clear T_w6 A_w6 BV_w6 R_w6 z0_w6 z1_w6 B_w6 hb7
    have o_T_0 := T_w7.out.c (i := 0) rfl
    have o_T_1 := T_w7.out.c (i := 1) rfl
    have o_T_2 := T_w7.out.c (i := 2) rfl
    have o_T_3 := T_w7.out.c (i := 3) rfl
    have o_BV_0 := BV_w7.out.c (i := 0) rfl
    have o_BV_1 := BV_w7.out.c (i := 1) rfl
    have o_BV_2 := BV_w7.out.c (i := 2) rfl
    have o_BV_3 := BV_w7.out.c (i := 3) rfl
    go_wp2_with fail
    clear o_T_0 o_T_1 o_T_2 o_T_3 o_BV_0 o_BV_1 o_BV_2 o_BV_3
    clear hr1 hr2 hi3 hi4
    go_loopw [8, 9, 90] (fun ls rs i wr => ∃ k : Nat, k ≤ f.infos.length ∧ i = .int .i64 k ∧ ls = .int .i64 (f.least k) ∧ rs = .int .i64 (f.rts k) ∧ Below w7.heap.size w7 wr) (fun _ _ i _ => f.infos.length - (intOf i).toNat)
    case atStart => exact ⟨0, by omega, rfl, rfl, by rw [show f.rts 0 = 0 by unfold S.rts; split <;> simp], Below.refl _ _⟩
    case round =>
      obtain ⟨k, hk', rfl, rfl, rfl, hbr⟩ := hrel
      have BW0 := Lib.hid (Bw.mk hbr)
      have T_wr := Lib.hid (T_w7.out.below hbr)
      have A_wr := Lib.hid (A_w7.out.below hbr)
      have BV_wr := Lib.hid (BV_w7.out.below hbr)
      have R_wr := Lib.hid (R_w7.out.below hbr)
      have z0_wr : w.heap.size < wr.heap.size := Nat.lt_of_lt_of_le z0_w7 hbr.size
      have z1_wr : w4.heap.size < wr.heap.size := Nat.lt_of_lt_of_le z1_w7 hbr.size
      have B_wr := bt B_w7 hbr
      clear T_w7 A_w7 BV_w7 R_w7 z0_w7 z1_w7 B_w7 hbr
      by_cases hlt : k < f.infos.length
      · have hkc : k < f.costs.length := by have := hl3.out; omega
        obtain ⟨bI, oI, rfl, hbI, q0, q1, q2, q3, q4, q5⟩ := SlN.at_ A_wr.out.r.infos.sl (info_at hlt)
        obtain ⟨bR, oR, rfl, hbR, qR⟩ := IntP.SlI.at_ R_wr.out.sl (roles_at hkc)
        have hRl : (k : Int) < (f.roles.length : Int) := by rw [roles_len]; omega
        obtain ⟨⟨xh, xv, xa⟩, hx⟩ : ∃ x, f.info k = x := ⟨_, rfl⟩
        rw [hx] at q0 q1 q2 q3 q4 q5
        simp only at q0 q1 q2 q3 q4 q5
        obtain ⟨L, hL⟩ : ∃ x, f.least k = x := ⟨_, rfl⟩
        obtain ⟨L', hL'⟩ : ∃ x, (if xv.r < L then xv.r else L) = x := ⟨_, rfl⟩
        have hz := role_zero hok.out hkc
        have hy := fun h => least_yes (m := L') hx h (by rw [hL]; exact hL')
        have hn := fun h => least_no hx h
        obtain ⟨n, hn9⟩ : ∃ n, f.rts k = n := ⟨_, rfl⟩
        have hnb := rts_bd (s := f) k
        obtain ⟨rk, hrk⟩ : ∃ n, f.role k = n := ⟨_, rfl⟩
        rw [hL] at hn
        rw [hL]
        rw [hn9] at hnb
        rw [hn9]
        rw [hrk] at hz qR
        replace hn9 := Lib.hid hn9
        replace hrk := Lib.hid hrk
        replace hx := Lib.hid hx
        replace hL := Lib.hid hL
        replace hn := Lib.hid hn
        replace hy := Lib.hid hy
        obtain ⟨hnb1, hnb2⟩ := hnb
        by_cases hr : f.root = some k
        · have hrk0 : rk = 0 := hz.2 hr
          subst hrk0
          have hri9 : ri = (k : Int) := by rw [← hri.out]; unfold S.rootI; rw [hr]; rfl
          subst hri9
          obtain ⟨hs0, hs1⟩ := rts_yes hr
          have hn0 : n = 0 := by rw [← hn9.out]; exact hs0
          subst hn0
          replace hs1 := Lib.hid hs1
          replace hs0 := Lib.hid hs0
          replace hr := Lib.hid hr
          replace hz := Lib.hid hz
          cases xh
          all_goals
            go_wp2_with fail
            go_roundw
            case rel =>
              refine ⟨k + 1, by omega, by go_num, ?_, ?_, ?_⟩
              · first | (rw [hy.out rfl]; done) | (rw [hn.out rfl]; done)
              · rw [hs1.out]
              · exact bt BW0.out.b ((Below.refl _ _).alloc (Nat.le_refl _) _)
            case measure => (simp [intOf]) <;> omega
        · have hrk0 : (rk == 0) = false := by
            have : rk ≠ 0 := fun e => hr (hz.1 e)
            simpa using this
          have hri9 : ((k : Int) == ri) = false := by
            have h9 : (k : Int) ≠ ri := fun e => hr (by
              rcases root_ways (s := f) with ⟨_, e', _⟩ | ⟨b, hb, e', _, _⟩
              · have := hri.out; omega
              · have h9 := hri.out
                obtain rfl : k = b := by omega
                exact hb)
            simpa using h9
          have hs1 := Lib.hid (rts_no hr)
          replace hr := Lib.hid hr
          replace hz := Lib.hid hz
          cases xh
          all_goals
            go_wp2_with fail
            go_roundw
            case rel =>
              refine ⟨k + 1, by omega, by go_num, ?_, ?_, ?_⟩
              · first | (rw [hy.out rfl]; done) | (rw [hn.out rfl]; done)
              · rw [hs1.out, hn9.out]
              · exact bt BW0.out.b ((Below.refl _ _).alloc (Nat.le_refl _) _)
            case measure => (simp [intOf]) <;> omega
      · obtain rfl : k = f.infos.length := by omega
        have hx8 : ¬ f.infos.length < f.costs.length := by have := hl3.out; omega
        have hx9 : ¬ (f.infos.length : Int) < (f.costs.length : Int) := by have := hl3.out; omega
        rw [least_end, hvr.out]
        cases hr : f.root with
        | none =>
            have hri9 : ri = -1 := by rw [← hri.out]; unfold S.rootI; rw [hr]; rfl
            subst hri9
            have h9 := hv.out
            rw [tells_none hr] at h9
            injection h9 with g1 g2 g3 g4
            subst g1
            subst g2
            rw [show f.rts f.infos.length = 0 by unfold S.rts; rw [hr]]
            replace hr := Lib.hid hr
            clear g3 g4
            have o_T_0 := T_wr.out.c (i := 0) rfl
            have o_T_1 := T_wr.out.c (i := 1) rfl
            have o_T_2 := T_wr.out.c (i := 2) rfl
            have o_T_3 := T_wr.out.c (i := 3) rfl
            have o_BV_0 := BV_wr.out.c (i := 0) rfl
            have o_BV_1 := BV_wr.out.c (i := 1) rfl
            have o_BV_2 := BV_wr.out.c (i := 2) rfl
            have o_BV_3 := BV_wr.out.c (i := 3) rfl
            go_wp2_with fail
            go_ret
            exact ⟨rfl, B_wr⟩
        | some b =>
            obtain ⟨hbl, hbh⟩ := root_lt hr
            have hri9 : ri = (b : Int) := by rw [← hri.out]; unfold S.rootI; rw [hr]; rfl
            subst hri9
            have hbc : b < f.costs.length := by have := hl3.out; omega
            have h9 := hv.out
            rw [tells_some hr] at h9
            injection h9 with g1 g2 g3 g4
            have hlt9 : vr < f.id := by rw [← g1]; exact (root_best hr).2
            rw [show f.rts f.infos.length = 1 by unfold S.rts; rw [hr]; exact if_pos hbl]
            have hleast := fun j (hj : j < f.infos.length) (hh : (f.info j).has = true) => root_least hr hj hh
            have hwok := way_ok hok.out hbc hbh
            have hxo := ((ok_info hok.out hbc).2.1 hbh).2
            obtain ⟨hc1, hc2, _⟩ := ok_port hok.out hbc
            obtain ⟨bI, oI, rfl, hbI, q0, q1, q2, q3, q4, q5⟩ := SlN.at_ A_wr.out.r.infos.sl (info_at hbl)
            obtain ⟨bC, oC, rfl, hbC, qC⟩ := IntP.SlI.at_ A_wr.out.r.costs.sl (cost_at hbc)
            have hy9 : farV (f.info b).v (f.cost b) = f.way b := rfl
            obtain ⟨yb, hyb⟩ : ∃ y, f.way b = y := ⟨_, rfl⟩
            rw [hyb] at hy9 hwok hleast g2
            obtain ⟨xb, hxb⟩ : ∃ y, (f.info b).v = y := ⟨_, rfl⟩
            rw [hxb] at q1 q2 q3 q4 hxo hy9
            obtain ⟨cb, hcb⟩ : ∃ y, f.cost b = y := ⟨_, rfl⟩
            rw [hcb] at qC hc1 hc2 hy9
            have hFar := Lib.hid fun W => far_to hxo hc1 hc2 hy9 W
            have hb0 : ¬ (b : Int) < 0 := by omega
            have hb1 : (0 : Int) ≤ (b : Int) := by omega
            have hb2 : (b : Int) < (f.infos.length : Int) := by omega
            have hb3 : (b : Int) < (f.costs.length : Int) := by omega
            subst g2
            replace hr := Lib.hid hr
            replace hleast := Lib.hid hleast
            replace hwok := Lib.hid hwok
            replace hxo := Lib.hid hxo
            replace hyb := Lib.hid hyb
            replace hxb := Lib.hid hxb
            replace hcb := Lib.hid hcb
            replace hy9 := Lib.hid hy9
            clear q0 q5 g1 g3 g4
            have o_T_0 := T_wr.out.c (i := 0) rfl
            have o_T_1 := T_wr.out.c (i := 1) rfl
            have o_T_2 := T_wr.out.c (i := 2) rfl
            have o_T_3 := T_wr.out.c (i := 3) rfl
            have o_BV_0 := BV_wr.out.c (i := 0) rfl
            have o_BV_1 := BV_wr.out.c (i := 1) rfl
            have o_BV_2 := BV_wr.out.c (i := 2) rfl
            have o_BV_3 := BV_wr.out.c (i := 3) rfl
            go_upto_region 23 with fail
            refine Go.Proofs.Ytdnpcpehjjildaa.MacP.wp_region_lit (by kernel_rfl) (fun ix => match ix with | 0 => 146 | 1 => 147 | 2 => 148 | 3 => 149 | 4 => 150 | 5 => 151 | 6 => 152 | 7 => 153 | 8 => 154 | 9 => 155 | 10 => 156 | 11 => 157 | 12 => 145 | 13 => 158 | 14 => 159 | 15 => 12 | 17 => 13 | _ => 0) 15 16 29 #[.int .i64 0, .int .i64 0, .int .i64 0, .int .i64 0] #[.int .i64 yb.r, .int .i64 yb.c, .int .i64 yb.b, .int .i64 yb.p] (by decide) (by decide) (by decide) (by kernel_rfl) (by kernel_rfl) (by kernel_rfl) rfl (fun ix v _ => match ix with | 0 => v = .pointer (some ⟨w.heap.size, 3, none⟩) | 1 => v = .slice (some ⟨bI, oI, none⟩) f.infos.length cI | 2 => v = .int .i64 b | 3 => v = .pointer (some ⟨bI, oI + b * 6, none⟩) | 4 => v = .pointer (some ⟨bI, oI + b * 6 + 1, none⟩) | 5 => v = vg xb | 6 => v = .pointer (some ⟨w.heap.size, 1, none⟩) | 7 => v = .slice (some ⟨bC, oC, none⟩) f.costs.length cC | 8 => v = .int .i64 b | 9 => v = .pointer (some ⟨bC, oC + b, none⟩) | 10 => v = .int .i64 cb | 11 => v = .tuple #[vg yb, .int .i64 0] | 12 => v = .tuple #[vg yb, .int .i64 0] | 13 => v = vg yb | 14 => v = .int .i64 0 | 17 => v = .int .i64 0 | _ => True) (fun _ _ _ _ h _ => h) (fun _ _ _ _ _ h _ _ => h) ?_ ?_
            · refine ⟨?_, ?_, ?_, ?_, ?_, ?_, ?_, ?_, ?_, ?_, ?_, ?_, ?_, ?_, ?_, ?_, ?_, ?_, trivial⟩
              · as_aux_lemma =>
                  intro a w1 K hb hdep hk hK
                  replace hK : ∀ v w', v = .pointer (some ⟨w.heap.size, 3, none⟩) → Below w1.heap.size w1 w' → K (a.put (some 146) v) w' := hK
                  have d1 : a.tmps.getD 1 undef = .pointer (some ⟨w.heap.size, 0, none⟩) := hk 1 (by kernel_rfl)
                  clear hdep hk hb
                  go_simp
                  exact hK _ _ rfl (Below.refl _ _)
              · as_aux_lemma =>
                  intro a w1 K hb hdep hk hK
                  replace hK : ∀ v w', v = .slice (some ⟨bI, oI, none⟩) f.infos.length cI → Below w1.heap.size w1 w' → K (a.put (some 147) v) w' := hK
                  have d146 : a.tmps.getD 146 undef = .pointer (some ⟨w.heap.size, 3, none⟩) := hdep ⟨0, .data⟩ (by simp) rfl (by decide) (by decide)
                  have t0 := (hb.cell (p := ⟨w.heap.size, 0, none⟩) z0_wr).trans o_T_0
                  have t1 := (hb.cell (p := ⟨w.heap.size, 1, none⟩) z0_wr).trans o_T_1
                  have t2 := (hb.cell (p := ⟨w.heap.size, 2, none⟩) z0_wr).trans o_T_2
                  have t3 := (hb.cell (p := ⟨w.heap.size, 3, none⟩) z0_wr).trans o_T_3
                  clear hdep hk hb
                  go_simp
                  exact hK _ _ rfl (Below.refl _ _)
              · as_aux_lemma =>
                  intro a w1 K hb hdep hk hK
                  replace hK : ∀ v w', v = .int .i64 b → Below w1.heap.size w1 w' → K (a.put (some 148) v) w' := hK
                  have d4 : a.tmps.getD 4 undef = .int .i64 b := hk 4 (by kernel_rfl)
                  clear hdep hk hb
                  go_simp
                  exact hK _ _ rfl (Below.refl _ _)
              · as_aux_lemma =>
                  intro a w1 K hb hdep hk hK
                  replace hK : ∀ v w', v = .pointer (some ⟨bI, oI + b * 6, none⟩) → Below w1.heap.size w1 w' → K (a.put (some 149) v) w' := hK
                  have d147 : a.tmps.getD 147 undef = .slice (some ⟨bI, oI, none⟩) f.infos.length cI := hdep ⟨1, .data⟩ (by simp) rfl (by decide) (by decide)
                  have d148 : a.tmps.getD 148 undef = .int .i64 b := hdep ⟨2, .data⟩ (by simp) rfl (by decide) (by decide)
                  clear hdep hk hb
                  go_simp
                  exact hK _ _ rfl (Below.refl _ _)
              · as_aux_lemma =>
                  intro a w1 K hb hdep hk hK
                  replace hK : ∀ v w', v = .pointer (some ⟨bI, oI + b * 6 + 1, none⟩) → Below w1.heap.size w1 w' → K (a.put (some 150) v) w' := hK
                  have d149 : a.tmps.getD 149 undef = .pointer (some ⟨bI, oI + b * 6, none⟩) := hdep ⟨3, .data⟩ (by simp) rfl (by decide) (by decide)
                  clear hdep hk hb
                  go_simp
                  exact hK _ _ rfl (Below.refl _ _)
              · as_aux_lemma =>
                  intro a w1 K hb hdep hk hK
                  replace hK : ∀ v w', v = vg xb → Below w1.heap.size w1 w' → K (a.put (some 151) v) w' := hK
                  have d150 : a.tmps.getD 150 undef = .pointer (some ⟨bI, oI + b * 6 + 1, none⟩) := hdep ⟨4, .data⟩ (by simp) rfl (by decide) (by decide)
                  have p1 := (hb.cell (p := ⟨bI, oI + b * 6 + 1, none⟩) hbI).trans q1
                  have p2 := (hb.cell (p := ⟨bI, oI + b * 6 + 2, none⟩) hbI).trans q2
                  have p3 := (hb.cell (p := ⟨bI, oI + b * 6 + 3, none⟩) hbI).trans q3
                  have p4 := (hb.cell (p := ⟨bI, oI + b * 6 + 4, none⟩) hbI).trans q4
                  clear hdep hk hb
                  go_simp
                  exact hK _ _ rfl (Below.refl _ _)
              · as_aux_lemma =>
                  intro a w1 K hb hdep hk hK
                  replace hK : ∀ v w', v = .pointer (some ⟨w.heap.size, 1, none⟩) → Below w1.heap.size w1 w' → K (a.put (some 152) v) w' := hK
                  have d1 : a.tmps.getD 1 undef = .pointer (some ⟨w.heap.size, 0, none⟩) := hk 1 (by kernel_rfl)
                  clear hdep hk hb
                  go_simp
                  exact hK _ _ rfl (Below.refl _ _)
              · as_aux_lemma =>
                  intro a w1 K hb hdep hk hK
                  replace hK : ∀ v w', v = .slice (some ⟨bC, oC, none⟩) f.costs.length cC → Below w1.heap.size w1 w' → K (a.put (some 153) v) w' := hK
                  have d152 : a.tmps.getD 152 undef = .pointer (some ⟨w.heap.size, 1, none⟩) := hdep ⟨6, .data⟩ (by simp) rfl (by decide) (by decide)
                  have t0 := (hb.cell (p := ⟨w.heap.size, 0, none⟩) z0_wr).trans o_T_0
                  have t1 := (hb.cell (p := ⟨w.heap.size, 1, none⟩) z0_wr).trans o_T_1
                  have t2 := (hb.cell (p := ⟨w.heap.size, 2, none⟩) z0_wr).trans o_T_2
                  have t3 := (hb.cell (p := ⟨w.heap.size, 3, none⟩) z0_wr).trans o_T_3
                  clear hdep hk hb
                  go_simp
                  exact hK _ _ rfl (Below.refl _ _)
              · as_aux_lemma =>
                  intro a w1 K hb hdep hk hK
                  replace hK : ∀ v w', v = .int .i64 b → Below w1.heap.size w1 w' → K (a.put (some 154) v) w' := hK
                  have d4 : a.tmps.getD 4 undef = .int .i64 b := hk 4 (by kernel_rfl)
                  clear hdep hk hb
                  go_simp
                  exact hK _ _ rfl (Below.refl _ _)
              · as_aux_lemma =>
                  intro a w1 K hb hdep hk hK
                  replace hK : ∀ v w', v = .pointer (some ⟨bC, oC + b, none⟩) → Below w1.heap.size w1 w' → K (a.put (some 155) v) w' := hK
                  have d153 : a.tmps.getD 153 undef = .slice (some ⟨bC, oC, none⟩) f.costs.length cC := hdep ⟨7, .data⟩ (by simp) rfl (by decide) (by decide)
                  have d154 : a.tmps.getD 154 undef = .int .i64 b := hdep ⟨8, .data⟩ (by simp) rfl (by decide) (by decide)
                  clear hdep hk hb
                  go_simp
                  exact hK _ _ rfl (Below.refl _ _)
              · as_aux_lemma =>
                  intro a w1 K hb hdep hk hK
                  replace hK : ∀ v w', v = .int .i64 cb → Below w1.heap.size w1 w' → K (a.put (some 156) v) w' := hK
                  have d155 : a.tmps.getD 155 undef = .pointer (some ⟨bC, oC + b, none⟩) := hdep ⟨9, .data⟩ (by simp) rfl (by decide) (by decide)
                  have pC := (hb.cell (p := ⟨bC, oC + b, none⟩) hbC).trans qC
                  clear hdep hk hb
                  go_simp
                  exact hK _ _ rfl (Below.refl _ _)
              · as_aux_lemma =>
                  intro a w1 K hb hdep hk hK
                  replace hK : ∀ v w', v = .tuple #[vg yb, .int .i64 0] → Below w1.heap.size w1 w' → K (a.put (some 157) v) w' := hK
                  have d151 : a.tmps.getD 151 undef = vg xb := hdep ⟨5, .data⟩ (by simp) rfl (by decide) (by decide)
                  have d156 : a.tmps.getD 156 undef = .int .i64 cb := hdep ⟨10, .data⟩ (by simp) rfl (by decide) (by decide)
                  clear hdep hk hb
                  have hcall := hFar
                  have q151 : a.tmps[151]?.getD undef = vg xb := by simpa [Array.getD_eq_getD_getElem?] using d151
                  clear d151
                  have q156 : a.tmps[156]?.getD undef = .int .i64 cb := by simpa [Array.getD_eq_getD_getElem?] using d156
                  clear d156
                  go_simp
                  refine (hcall.out _).mono ?_
                  rintro e w9 ⟨rfl, r2⟩
                  exact hK _ _ rfl r2
              · as_aux_lemma =>
                  intro a w1 K hb hdep hk hK
                  replace hK : ∀ v w', v = .tuple #[vg yb, .int .i64 0] → Below w1.heap.size w1 w' → K (a.put (some 145) v) w' := hK
                  have d157 : a.tmps.getD 157 undef = .tuple #[vg yb, .int .i64 0] := hdep ⟨11, .data⟩ (by simp) rfl (by decide) (by decide)
                  clear hdep hk hb
                  have q157 : a.tmps[157]?.getD undef = .tuple #[vg yb, .int .i64 0] := by simpa [Array.getD_eq_getD_getElem?] using d157
                  clear d157
                  go_simp
                  exact hK _ _ rfl (Below.refl _ _)
              · as_aux_lemma =>
                  intro a w1 K hb hdep hk hK
                  replace hK : ∀ v w', v = vg yb → Below w1.heap.size w1 w' → K (a.put (some 158) v) w' := hK
                  have d145 : a.tmps.getD 145 undef = .tuple #[vg yb, .int .i64 0] := hdep ⟨12, .data⟩ (by simp) rfl (by decide) (by decide)
                  clear hdep hk hb
                  have q145 : a.tmps[145]?.getD undef = .tuple #[vg yb, .int .i64 0] := by simpa [Array.getD_eq_getD_getElem?] using d145
                  clear d145
                  go_simp
                  exact hK _ _ rfl (Below.refl _ _)
              · as_aux_lemma =>
                  intro a w1 K hb hdep hk hK
                  replace hK : ∀ v w', v = .int .i64 0 → Below w1.heap.size w1 w' → K (a.put (some 159) v) w' := hK
                  have d145 : a.tmps.getD 145 undef = .tuple #[vg yb, .int .i64 0] := hdep ⟨12, .data⟩ (by simp) rfl (by decide) (by decide)
                  clear hdep hk hb
                  have q145 : a.tmps[145]?.getD undef = .tuple #[vg yb, .int .i64 0] := by simpa [Array.getD_eq_getD_getElem?] using d145
                  clear d145
                  go_simp
                  exact hK _ _ rfl (Below.refl _ _)
              · as_aux_lemma =>
                  intro a w1 K hb hdep hk hK
                  clear hdep hk hb
                  go_simp
                  exact hK
              · as_aux_lemma =>
                  intro a w1 K hb hdep hk hK
                  obtain ⟨b9, cs, h9, hblk, hcs, hK⟩ : ∃ b9 cs, a.tmps.getD 12 undef = .pointer (some ⟨b9, 0, none⟩) ∧ w1.heap[b9]? = some (.cells cs 29 (0, 0)) ∧ cs.size = 4 ∧ ∀ w', Wrote b9 #[.int .i64 yb.r, .int .i64 yb.c, .int .i64 yb.b, .int .i64 yb.p] 29 w1 w' → K a w' := hK
                  have d158 : a.tmps.getD 158 undef = vg yb := hdep ⟨13, .data⟩ (by simp) rfl (by decide) (by decide)
                  have q158 : a.tmps[158]?.getD undef = vg yb := by simpa [Array.getD_eq_getD_getElem?] using d158
                  clear d158
                  obtain ⟨v0, v1, v2, v3, rfl⟩ : ∃ v0 v1 v2 v3, cs = #[v0, v1, v2, v3] := arr4 cs hcs
                  clear hcs
                  have g0 : w1.cell? ⟨b9, 0, none⟩ = some v0 := Joins.cell_of_block hblk 0
                  have f0 : w1.frozen? ⟨b9, 0, none⟩ = false := frozen_of_row w1 b9 0 _ _ hblk
                  have g1 : w1.cell? ⟨b9, 1, none⟩ = some v1 := Joins.cell_of_block hblk 1
                  have f1 : w1.frozen? ⟨b9, 1, none⟩ = false := frozen_of_row w1 b9 1 _ _ hblk
                  have g2 : w1.cell? ⟨b9, 2, none⟩ = some v2 := Joins.cell_of_block hblk 2
                  have f2 : w1.frozen? ⟨b9, 2, none⟩ = false := frozen_of_row w1 b9 2 _ _ hblk
                  have g3 : w1.cell? ⟨b9, 3, none⟩ = some v3 := Joins.cell_of_block hblk 3
                  have f3 : w1.frozen? ⟨b9, 3, none⟩ = false := frozen_of_row w1 b9 3 _ _ hblk
                  replace hblk := Lib.hid hblk
                  clear hdep hk hb
                  go_simp
                  exact hK _ (((((Wrote.start hblk.out).set (i := 0) _).set (i := 1) _).set (i := 2) _).set (i := 3) _)
              · as_aux_lemma =>
                  intro a w1 K hb hdep hk hK
                  replace hK : ∀ v w', v = .int .i64 0 → Below w1.heap.size w1 w' → K (a.put (some 13) v) w' := hK
                  have d159 : a.tmps.getD 159 undef = .int .i64 0 := hdep ⟨14, .data⟩ (by simp) rfl (by decide) (by decide)
                  clear hdep hk hb
                  go_simp
                  exact hK _ _ rfl (Below.refl _ _)
            · intro a w8 b9 hlw8 hsp hk h8 hzb hblk hn hdf
              have s1 : a.tmps.getD 1 undef = .pointer (some ⟨w.heap.size, 0, none⟩) := hk 1 (by kernel_rfl)
              have s3 : a.tmps.getD 3 undef = .pointer (some ⟨w4.heap.size, 0, none⟩) := hk 3 (by kernel_rfl)
              have s4 : a.tmps.getD 4 undef = .int .i64 b := hk 4 (by kernel_rfl)
              have s5 : a.tmps.getD 5 undef = .int .i64 0 := hk 5 (by kernel_rfl)
              have s6 : a.tmps.getD 6 undef = .slice A1 f.roles.length c1 := hk 6 (by kernel_rfl)
              have s7 : a.tmps.getD 7 undef = .int .i64 0 := hk 7 (by kernel_rfl)
              have s8 : a.tmps.getD 8 undef = .int .i64 vr := hk 8 (by kernel_rfl)
              have s9 : a.tmps.getD 9 undef = .int .i64 1 := hk 9 (by kernel_rfl)
              have s12 : a.tmps.getD 12 undef = .pointer (some ⟨b9, 0, none⟩) := h8
              have s13 : a.tmps.getD 13 undef = .int .i64 0 := hsp 17 (by decide) (by decide) (by decide)
              clear hk hsp h8
              obtain ⟨tm, df⟩ := a
              have e := arr_out tm 221 hn
              replace e : tm = #[tm.getD 0 undef, tm.getD 1 undef, tm.getD 2 undef, tm.getD 3 undef, tm.getD 4 undef, tm.getD 5 undef, tm.getD 6 undef, tm.getD 7 undef, tm.getD 8 undef, tm.getD 9 undef, tm.getD 10 undef, tm.getD 11 undef, tm.getD 12 undef, tm.getD 13 undef, tm.getD 14 undef, tm.getD 15 undef, tm.getD 16 undef, tm.getD 17 undef, tm.getD 18 undef, tm.getD 19 undef, tm.getD 20 undef, tm.getD 21 undef, tm.getD 22 undef, tm.getD 23 undef, tm.getD 24 undef, tm.getD 25 undef, tm.getD 26 undef, tm.getD 27 undef, tm.getD 28 undef, tm.getD 29 undef, tm.getD 30 undef, tm.getD 31 undef, tm.getD 32 undef, tm.getD 33 undef, tm.getD 34 undef, tm.getD 35 undef, tm.getD 36 undef, tm.getD 37 undef, tm.getD 38 undef, tm.getD 39 undef, tm.getD 40 undef, tm.getD 41 undef, tm.getD 42 undef, tm.getD 43 undef, tm.getD 44 undef, tm.getD 45 undef, tm.getD 46 undef, tm.getD 47 undef, tm.getD 48 undef, tm.getD 49 undef, tm.getD 50 undef, tm.getD 51 undef, tm.getD 52 undef, tm.getD 53 undef, tm.getD 54 undef, tm.getD 55 undef, tm.getD 56 undef, tm.getD 57 undef, tm.getD 58 undef, tm.getD 59 undef, tm.getD 60 undef, tm.getD 61 undef, tm.getD 62 undef, tm.getD 63 undef, tm.getD 64 undef, tm.getD 65 undef, tm.getD 66 undef, tm.getD 67 undef, tm.getD 68 undef, tm.getD 69 undef, tm.getD 70 undef, tm.getD 71 undef, tm.getD 72 undef, tm.getD 73 undef, tm.getD 74 undef, tm.getD 75 undef, tm.getD 76 undef, tm.getD 77 undef, tm.getD 78 undef, tm.getD 79 undef, tm.getD 80 undef, tm.getD 81 undef, tm.getD 82 undef, tm.getD 83 undef, tm.getD 84 undef, tm.getD 85 undef, tm.getD 86 undef, tm.getD 87 undef, tm.getD 88 undef, tm.getD 89 undef, tm.getD 90 undef, tm.getD 91 undef, tm.getD 92 undef, tm.getD 93 undef, tm.getD 94 undef, tm.getD 95 undef, tm.getD 96 undef, tm.getD 97 undef, tm.getD 98 undef, tm.getD 99 undef, tm.getD 100 undef, tm.getD 101 undef, tm.getD 102 undef, tm.getD 103 undef, tm.getD 104 undef, tm.getD 105 undef, tm.getD 106 undef, tm.getD 107 undef, tm.getD 108 undef, tm.getD 109 undef, tm.getD 110 undef, tm.getD 111 undef, tm.getD 112 undef, tm.getD 113 undef, tm.getD 114 undef, tm.getD 115 undef, tm.getD 116 undef, tm.getD 117 undef, tm.getD 118 undef, tm.getD 119 undef, tm.getD 120 undef, tm.getD 121 undef, tm.getD 122 undef, tm.getD 123 undef, tm.getD 124 undef, tm.getD 125 undef, tm.getD 126 undef, tm.getD 127 undef, tm.getD 128 undef, tm.getD 129 undef, tm.getD 130 undef, tm.getD 131 undef, tm.getD 132 undef, tm.getD 133 undef, tm.getD 134 undef, tm.getD 135 undef, tm.getD 136 undef, tm.getD 137 undef, tm.getD 138 undef, tm.getD 139 undef, tm.getD 140 undef, tm.getD 141 undef, tm.getD 142 undef, tm.getD 143 undef, tm.getD 144 undef, tm.getD 145 undef, tm.getD 146 undef, tm.getD 147 undef, tm.getD 148 undef, tm.getD 149 undef, tm.getD 150 undef, tm.getD 151 undef, tm.getD 152 undef, tm.getD 153 undef, tm.getD 154 undef, tm.getD 155 undef, tm.getD 156 undef, tm.getD 157 undef, tm.getD 158 undef, tm.getD 159 undef, tm.getD 160 undef, tm.getD 161 undef, tm.getD 162 undef, tm.getD 163 undef, tm.getD 164 undef, tm.getD 165 undef, tm.getD 166 undef, tm.getD 167 undef, tm.getD 168 undef, tm.getD 169 undef, tm.getD 170 undef, tm.getD 171 undef, tm.getD 172 undef, tm.getD 173 undef, tm.getD 174 undef, tm.getD 175 undef, tm.getD 176 undef, tm.getD 177 undef, tm.getD 178 undef, tm.getD 179 undef, tm.getD 180 undef, tm.getD 181 undef, tm.getD 182 undef, tm.getD 183 undef, tm.getD 184 undef, tm.getD 185 undef, tm.getD 186 undef, tm.getD 187 undef, tm.getD 188 undef, tm.getD 189 undef, tm.getD 190 undef, tm.getD 191 undef, tm.getD 192 undef, tm.getD 193 undef, tm.getD 194 undef, tm.getD 195 undef, tm.getD 196 undef, tm.getD 197 undef, tm.getD 198 undef, tm.getD 199 undef, tm.getD 200 undef, tm.getD 201 undef, tm.getD 202 undef, tm.getD 203 undef, tm.getD 204 undef, tm.getD 205 undef, tm.getD 206 undef, tm.getD 207 undef, tm.getD 208 undef, tm.getD 209 undef, tm.getD 210 undef, tm.getD 211 undef, tm.getD 212 undef, tm.getD 213 undef, tm.getD 214 undef, tm.getD 215 undef, tm.getD 216 undef, tm.getD 217 undef, tm.getD 218 undef, tm.getD 219 undef, tm.getD 220 undef] := e
              simp only at s1 s3 s4 s5 s6 s7 s8 s9 s12 s13 hdf
              rw [s1, s3, s4, s5, s6, s7, s8, s9, s12, s13] at e
              subst hdf
              clear s1 s3 s4 s5 s6 s7 s8 s9 s12 s13 hn
              generalize tm.getD 0 undef = y0 at e
              generalize tm.getD 2 undef = y2 at e
              generalize tm.getD 10 undef = y10 at e
              generalize tm.getD 11 undef = y11 at e
              generalize tm.getD 14 undef = y14 at e
              generalize tm.getD 15 undef = y15 at e
              generalize tm.getD 16 undef = y16 at e
              generalize tm.getD 17 undef = y17 at e
              generalize tm.getD 18 undef = y18 at e
              generalize tm.getD 19 undef = y19 at e
              generalize tm.getD 20 undef = y20 at e
              generalize tm.getD 21 undef = y21 at e
              generalize tm.getD 22 undef = y22 at e
              generalize tm.getD 23 undef = y23 at e
              generalize tm.getD 24 undef = y24 at e
              generalize tm.getD 25 undef = y25 at e
              generalize tm.getD 26 undef = y26 at e
              generalize tm.getD 27 undef = y27 at e
              generalize tm.getD 28 undef = y28 at e
              generalize tm.getD 29 undef = y29 at e
              generalize tm.getD 30 undef = y30 at e
              generalize tm.getD 31 undef = y31 at e
              generalize tm.getD 32 undef = y32 at e
              generalize tm.getD 33 undef = y33 at e
              generalize tm.getD 34 undef = y34 at e
              generalize tm.getD 35 undef = y35 at e
              generalize tm.getD 36 undef = y36 at e
              generalize tm.getD 37 undef = y37 at e
              generalize tm.getD 38 undef = y38 at e
              generalize tm.getD 39 undef = y39 at e
              generalize tm.getD 40 undef = y40 at e
              generalize tm.getD 41 undef = y41 at e
              generalize tm.getD 42 undef = y42 at e
              generalize tm.getD 43 undef = y43 at e
              generalize tm.getD 44 undef = y44 at e
              generalize tm.getD 45 undef = y45 at e
              generalize tm.getD 46 undef = y46 at e
              generalize tm.getD 47 undef = y47 at e
              generalize tm.getD 48 undef = y48 at e
              generalize tm.getD 49 undef = y49 at e
              generalize tm.getD 50 undef = y50 at e
              generalize tm.getD 51 undef = y51 at e
              generalize tm.getD 52 undef = y52 at e
              generalize tm.getD 53 undef = y53 at e
              generalize tm.getD 54 undef = y54 at e
              generalize tm.getD 55 undef = y55 at e
              generalize tm.getD 56 undef = y56 at e
              generalize tm.getD 57 undef = y57 at e
              generalize tm.getD 58 undef = y58 at e
              generalize tm.getD 59 undef = y59 at e
              generalize tm.getD 60 undef = y60 at e
              generalize tm.getD 61 undef = y61 at e
              generalize tm.getD 62 undef = y62 at e
              generalize tm.getD 63 undef = y63 at e
              generalize tm.getD 64 undef = y64 at e
              generalize tm.getD 65 undef = y65 at e
              generalize tm.getD 66 undef = y66 at e
              generalize tm.getD 67 undef = y67 at e
              generalize tm.getD 68 undef = y68 at e
              generalize tm.getD 69 undef = y69 at e
              generalize tm.getD 70 undef = y70 at e
              generalize tm.getD 71 undef = y71 at e
              generalize tm.getD 72 undef = y72 at e
              generalize tm.getD 73 undef = y73 at e
              generalize tm.getD 74 undef = y74 at e
              generalize tm.getD 75 undef = y75 at e
              generalize tm.getD 76 undef = y76 at e
              generalize tm.getD 77 undef = y77 at e
              generalize tm.getD 78 undef = y78 at e
              generalize tm.getD 79 undef = y79 at e
              generalize tm.getD 80 undef = y80 at e
              generalize tm.getD 81 undef = y81 at e
              generalize tm.getD 82 undef = y82 at e
              generalize tm.getD 83 undef = y83 at e
              generalize tm.getD 84 undef = y84 at e
              generalize tm.getD 85 undef = y85 at e
              generalize tm.getD 86 undef = y86 at e
              generalize tm.getD 87 undef = y87 at e
              generalize tm.getD 88 undef = y88 at e
              generalize tm.getD 89 undef = y89 at e
              generalize tm.getD 90 undef = y90 at e
              generalize tm.getD 91 undef = y91 at e
              generalize tm.getD 92 undef = y92 at e
              generalize tm.getD 93 undef = y93 at e
              generalize tm.getD 94 undef = y94 at e
              generalize tm.getD 95 undef = y95 at e
              generalize tm.getD 96 undef = y96 at e
              generalize tm.getD 97 undef = y97 at e
              generalize tm.getD 98 undef = y98 at e
              generalize tm.getD 99 undef = y99 at e
              generalize tm.getD 100 undef = y100 at e
              generalize tm.getD 101 undef = y101 at e
              generalize tm.getD 102 undef = y102 at e
              generalize tm.getD 103 undef = y103 at e
              generalize tm.getD 104 undef = y104 at e
              generalize tm.getD 105 undef = y105 at e
              generalize tm.getD 106 undef = y106 at e
              generalize tm.getD 107 undef = y107 at e
              generalize tm.getD 108 undef = y108 at e
              generalize tm.getD 109 undef = y109 at e
              generalize tm.getD 110 undef = y110 at e
              generalize tm.getD 111 undef = y111 at e
              generalize tm.getD 112 undef = y112 at e
              generalize tm.getD 113 undef = y113 at e
              generalize tm.getD 114 undef = y114 at e
              generalize tm.getD 115 undef = y115 at e
              generalize tm.getD 116 undef = y116 at e
              generalize tm.getD 117 undef = y117 at e
              generalize tm.getD 118 undef = y118 at e
              generalize tm.getD 119 undef = y119 at e
              generalize tm.getD 120 undef = y120 at e
              generalize tm.getD 121 undef = y121 at e
              generalize tm.getD 122 undef = y122 at e
              generalize tm.getD 123 undef = y123 at e
              generalize tm.getD 124 undef = y124 at e
              generalize tm.getD 125 undef = y125 at e
              generalize tm.getD 126 undef = y126 at e
              generalize tm.getD 127 undef = y127 at e
              generalize tm.getD 128 undef = y128 at e
              generalize tm.getD 129 undef = y129 at e
              generalize tm.getD 130 undef = y130 at e
              generalize tm.getD 131 undef = y131 at e
              generalize tm.getD 132 undef = y132 at e
              generalize tm.getD 133 undef = y133 at e
              generalize tm.getD 134 undef = y134 at e
              generalize tm.getD 135 undef = y135 at e
              generalize tm.getD 136 undef = y136 at e
              generalize tm.getD 137 undef = y137 at e
              generalize tm.getD 138 undef = y138 at e
              generalize tm.getD 139 undef = y139 at e
              generalize tm.getD 140 undef = y140 at e
              generalize tm.getD 141 undef = y141 at e
              generalize tm.getD 142 undef = y142 at e
              generalize tm.getD 143 undef = y143 at e
              generalize tm.getD 144 undef = y144 at e
              generalize tm.getD 145 undef = y145 at e
              generalize tm.getD 146 undef = y146 at e
              generalize tm.getD 147 undef = y147 at e
              generalize tm.getD 148 undef = y148 at e
              generalize tm.getD 149 undef = y149 at e
              generalize tm.getD 150 undef = y150 at e
              generalize tm.getD 151 undef = y151 at e
              generalize tm.getD 152 undef = y152 at e
              generalize tm.getD 153 undef = y153 at e
              generalize tm.getD 154 undef = y154 at e
              generalize tm.getD 155 undef = y155 at e
              generalize tm.getD 156 undef = y156 at e
              generalize tm.getD 157 undef = y157 at e
              generalize tm.getD 158 undef = y158 at e
              generalize tm.getD 159 undef = y159 at e
              generalize tm.getD 160 undef = y160 at e
              generalize tm.getD 161 undef = y161 at e
              generalize tm.getD 162 undef = y162 at e
              generalize tm.getD 163 undef = y163 at e
              generalize tm.getD 164 undef = y164 at e
              generalize tm.getD 165 undef = y165 at e
              generalize tm.getD 166 undef = y166 at e
              generalize tm.getD 167 undef = y167 at e
              generalize tm.getD 168 undef = y168 at e
              generalize tm.getD 169 undef = y169 at e
              generalize tm.getD 170 undef = y170 at e
              generalize tm.getD 171 undef = y171 at e
              generalize tm.getD 172 undef = y172 at e
              generalize tm.getD 173 undef = y173 at e
              generalize tm.getD 174 undef = y174 at e
              generalize tm.getD 175 undef = y175 at e
              generalize tm.getD 176 undef = y176 at e
              generalize tm.getD 177 undef = y177 at e
              generalize tm.getD 178 undef = y178 at e
              generalize tm.getD 179 undef = y179 at e
              generalize tm.getD 180 undef = y180 at e
              generalize tm.getD 181 undef = y181 at e
              generalize tm.getD 182 undef = y182 at e
              generalize tm.getD 183 undef = y183 at e
              generalize tm.getD 184 undef = y184 at e
              generalize tm.getD 185 undef = y185 at e
              generalize tm.getD 186 undef = y186 at e
              generalize tm.getD 187 undef = y187 at e
              generalize tm.getD 188 undef = y188 at e
              generalize tm.getD 189 undef = y189 at e
              generalize tm.getD 190 undef = y190 at e
              generalize tm.getD 191 undef = y191 at e
              generalize tm.getD 192 undef = y192 at e
              generalize tm.getD 193 undef = y193 at e
              generalize tm.getD 194 undef = y194 at e
              generalize tm.getD 195 undef = y195 at e
              generalize tm.getD 196 undef = y196 at e
              generalize tm.getD 197 undef = y197 at e
              generalize tm.getD 198 undef = y198 at e
              generalize tm.getD 199 undef = y199 at e
              generalize tm.getD 200 undef = y200 at e
              generalize tm.getD 201 undef = y201 at e
              generalize tm.getD 202 undef = y202 at e
              generalize tm.getD 203 undef = y203 at e
              generalize tm.getD 204 undef = y204 at e
              generalize tm.getD 205 undef = y205 at e
              generalize tm.getD 206 undef = y206 at e
              generalize tm.getD 207 undef = y207 at e
              generalize tm.getD 208 undef = y208 at e
              generalize tm.getD 209 undef = y209 at e
              generalize tm.getD 210 undef = y210 at e
              generalize tm.getD 211 undef = y211 at e
              generalize tm.getD 212 undef = y212 at e
              generalize tm.getD 213 undef = y213 at e
              generalize tm.getD 214 undef = y214 at e
              generalize tm.getD 215 undef = y215 at e
              generalize tm.getD 216 undef = y216 at e
              generalize tm.getD 217 undef = y217 at e
              generalize tm.getD 218 undef = y218 at e
              generalize tm.getD 219 undef = y219 at e
              generalize tm.getD 220 undef = y220 at e
              subst e
              clear o_T_0 o_T_1 o_T_2 o_T_3 o_BV_0 o_BV_1 o_BV_2 o_BV_3
              have T_w8 := Lib.hid (T_wr.out.below hlw8)
              have A_w8 := Lib.hid (A_wr.out.below hlw8)
              have BV_w8 := Lib.hid (BV_wr.out.below hlw8)
              have R_w8 := Lib.hid (R_wr.out.below hlw8)
              have BW_w8 := Lib.hid (BW0.out.below hlw8)
              have BB_w8 := Lib.hid (show Bx w8 b9 29 #[.int .i64 yb.r, .int .i64 yb.c, .int .i64 yb.b, .int .i64 yb.p] from hblk)
              have z0_w8 : w.heap.size < w8.heap.size := Nat.lt_of_lt_of_le z0_wr hlw8.size
              have z1_w8 : w4.heap.size < w8.heap.size := Nat.lt_of_lt_of_le z1_wr hlw8.size
              have B_w8 := bt B_wr hlw8
              clear T_wr A_wr BV_wr R_wr BW0 z0_wr z1_wr B_wr hlw8
              have z9 : b9 < w8.heap.size := (show Bx w8 b9 29 _ from hblk).lt
              clear hblk hzb q1 q2 q3 q4 qC hbI hbC
              simp only [Exit.then]
              have o_T_0 := T_w8.out.c (i := 0) rfl
              have o_T_1 := T_w8.out.c (i := 1) rfl
              have o_T_2 := T_w8.out.c (i := 2) rfl
              have o_T_3 := T_w8.out.c (i := 3) rfl
              go_wp2_with fail
              clear o_T_0 o_T_1 o_T_2 o_T_3
              go_loopw [163] (fun i wr => ∃ k : Nat, k ≤ f.infos.length ∧ i = .int .i64 k ∧ Below w8.heap.size w8 wr) (fun i _ => f.infos.length - (intOf i).toNat)
              case atStart => exact ⟨0, by omega, rfl, Below.refl _ _⟩
              case round =>
                obtain ⟨k, hk2, rfl, hbs⟩ := hrel
                have BW1 := Lib.hid (Bw.mk hbs)
                have T_wr := Lib.hid (T_w8.out.below hbs)
                have A_wr := Lib.hid (A_w8.out.below hbs)
                have BV_wr := Lib.hid (BV_w8.out.below hbs)
                have R_wr := Lib.hid (R_w8.out.below hbs)
                have BB_wr := Lib.hid (BB_w8.out.below hbs)
                have z0_wr : w.heap.size < wr.heap.size := Nat.lt_of_lt_of_le z0_w8 hbs.size
                have z1_wr : w4.heap.size < wr.heap.size := Nat.lt_of_lt_of_le z1_w8 hbs.size
                have z2_wr : b9 < wr.heap.size := Nat.lt_of_lt_of_le z9 hbs.size
                have B_wr := bt B_w8 hbs
                clear T_w8 A_w8 BV_w8 R_w8 BB_w8 z0_w8 z1_w8 z9 B_w8 hbs
                by_cases hlk : k < f.infos.length
                · have hkc : k < f.costs.length := by have := hl3.out; omega
                  have hk3 : (k : Int) < (f.costs.length : Int) := by omega
                  obtain ⟨bJ, oJ, e9, hbJ, q0, q1, q2, q3, q4, q5⟩ := SlN.at_ A_wr.out.r.infos.sl (info_at hlk)
                  obtain ⟨rfl, rfl⟩ : bI = bJ ∧ oI = oJ := by simpa using e9
                  obtain ⟨bD, oD, e8, hbD, qD⟩ := IntP.SlI.at_ A_wr.out.r.costs.sl (cost_at hkc)
                  obtain ⟨rfl, rfl⟩ : bC = bD ∧ oC = oD := by simpa using e8
                  clear e9 e8
                  have hinf := ok_info hok.out hkc
                  have hcost := ok_port hok.out hkc
                  have hlst := hleast.out k hlk
                  have hwk := way_ok hok.out hkc
                  have hyk : farV (f.info k).v (f.cost k) = f.way k := rfl
                  obtain ⟨⟨xh, xv, xa⟩, hx⟩ : ∃ x, f.info k = x := ⟨_, rfl⟩
                  obtain ⟨ck, hck⟩ : ∃ x, f.cost k = x := ⟨_, rfl⟩
                  obtain ⟨yk, hyk9⟩ : ∃ x, f.way k = x := ⟨_, rfl⟩
                  rw [hx] at q0 q1 q2 q3 q4 q5 hinf hlst hwk hyk
                  rw [hck] at qD hcost hyk
                  rw [hyk9] at hlst hwk hyk
                  simp only at q0 q1 q2 q3 q4 q5
                  replace hx := Lib.hid hx
                  replace hck := Lib.hid hck
                  replace hyk9 := Lib.hid hyk9
                  replace hinf := Lib.hid hinf
                  replace hcost := Lib.hid hcost
                  replace hlst := Lib.hid hlst
                  replace hwk := Lib.hid hwk
                  replace hyk := Lib.hid hyk
                  cases xh with
                  | false =>
                      go_wp2_with fail
                      go_roundw
                      case rel => exact ⟨k + 1, by omega, by go_num, bt BW1.out.b ((Below.refl _ _).alloc (Nat.le_refl _) _)⟩
                      case measure => (simp [intOf]) <;> omega
                  | true =>
                      have hxo2 := (hinf.out.2.1 rfl).2
                      obtain ⟨hl8, hl9⟩ := hlst.out rfl
                      have hwk2 := hwk.out rfl
                      have hFar2 := Lib.hid fun W => far_to hxo2 hcost.out.1 hcost.out.2.1 hyk.out W
                      replace hxo2 := Lib.hid hxo2
                      replace hl8 := Lib.hid hl8
                      replace hl9 := Lib.hid hl9
                      replace hwk2 := Lib.hid hwk2
                      have o_T_0 := T_wr.out.c (i := 0) rfl
                      have o_T_1 := T_wr.out.c (i := 1) rfl
                      have o_T_2 := T_wr.out.c (i := 2) rfl
                      have o_T_3 := T_wr.out.c (i := 3) rfl
                      go_upto_region 28 with fail
                      clear o_T_0 o_T_1 o_T_2 o_T_3
                      obtain ⟨w9, hw9⟩ : ∃ W, W = wr.alloc (.cells #[.bool true, .int .i64 xv.r, .int .i64 xv.c, .int .i64 xv.b, .int .i64 xv.p, .int .i64 xa] 49) := ⟨_, rfl⟩
                      have bw9 : Below wr.heap.size wr w9 := by rw [hw9]; exact (Below.refl _ _).alloc (Nat.le_refl _) _
                      have Xw9 : Bx w9 wr.heap.size 49 #[.bool true, .int .i64 xv.r, .int .i64 xv.c, .int .i64 xv.b, .int .i64 xv.p, .int .i64 xa] := by rw [hw9]; exact Bx.new _ _ _ rfl
                      rw [← hw9]
                      clear hw9
                      have T_w9 := Lib.hid (T_wr.out.below bw9)
                      have A_w9 := Lib.hid (A_wr.out.below bw9)
                      have BV_w9 := Lib.hid (BV_wr.out.below bw9)
                      have R_w9 := Lib.hid (R_wr.out.below bw9)
                      have BB_w9 := Lib.hid (BB_wr.out.below bw9)
                      have BW_w9 := Lib.hid (BW1.out.below bw9)
                      have BX_w9 := Lib.hid (Xw9)
                      have z0_w9 : w.heap.size < w9.heap.size := Nat.lt_of_lt_of_le z0_wr bw9.size
                      have z1_w9 : w4.heap.size < w9.heap.size := Nat.lt_of_lt_of_le z1_wr bw9.size
                      have z2_w9 : b9 < w9.heap.size := Nat.lt_of_lt_of_le z2_wr bw9.size
                      have B_w9 := bt B_wr bw9
                      clear T_wr A_wr BV_wr R_wr BB_wr BW1 z0_wr z1_wr z2_wr B_wr bw9
                      have z3_w9 : wr.heap.size < w9.heap.size := Xw9.lt
                      clear Xw9
                      obtain ⟨bD, oD, e8, hbD2, qD2⟩ := IntP.SlI.at_ A_w9.out.r.costs.sl (cost_at hkc)
                      obtain ⟨rfl, rfl⟩ : bC = bD ∧ oC = oD := by simpa using e8
                      rw [hck.out] at qD2
                      clear q0 q1 q2 q3 q4 q5 qD hbD hbJ e8
                      have o_T_0 := T_w9.out.c (i := 0) rfl
                      have o_T_1 := T_w9.out.c (i := 1) rfl
                      have o_T_2 := T_w9.out.c (i := 2) rfl
                      have o_T_3 := T_w9.out.c (i := 3) rfl
                      have o_BX_0 := BX_w9.out.c (i := 0) rfl
                      have o_BX_1 := BX_w9.out.c (i := 1) rfl
                      have o_BX_2 := BX_w9.out.c (i := 2) rfl
                      have o_BX_3 := BX_w9.out.c (i := 3) rfl
                      have o_BX_4 := BX_w9.out.c (i := 4) rfl
                      have o_BX_5 := BX_w9.out.c (i := 5) rfl
                      refine Go.Proofs.Ytdnpcpehjjildaa.MacP.wp_region_lit (by kernel_rfl) (fun ix => match ix with | 0 => 172 | 1 => 173 | 2 => 174 | 3 => 175 | 4 => 176 | 5 => 177 | 6 => 178 | 7 => 179 | 8 => 171 | 9 => 180 | 10 => 181 | 11 => 16 | 13 => 17 | _ => 0) 11 12 29 #[.int .i64 0, .int .i64 0, .int .i64 0, .int .i64 0] #[.int .i64 yk.r, .int .i64 yk.c, .int .i64 yk.b, .int .i64 yk.p] (by decide) (by decide) (by decide) (by kernel_rfl) (by kernel_rfl) (by kernel_rfl) rfl (fun ix v _ => match ix with | 0 => v = .pointer (some ⟨wr.heap.size, 1, none⟩) | 1 => v = vg xv | 2 => v = .pointer (some ⟨w.heap.size, 1, none⟩) | 3 => v = .slice (some ⟨bC, oC, none⟩) f.costs.length cC | 4 => v = .int .i64 k | 5 => v = .pointer (some ⟨bC, oC + k, none⟩) | 6 => v = .int .i64 ck | 7 => v = .tuple #[vg yk, .int .i64 0] | 8 => v = .tuple #[vg yk, .int .i64 0] | 9 => v = vg yk | 10 => v = .int .i64 0 | 13 => v = .int .i64 0 | _ => True) (fun _ _ _ _ h _ => h) (fun _ _ _ _ _ h _ _ => h) ?_ ?_
                      · refine ⟨?_, ?_, ?_, ?_, ?_, ?_, ?_, ?_, ?_, ?_, ?_, ?_, ?_, ?_, trivial⟩
                        · as_aux_lemma =>
                            intro a w1 K hb hdep hk hK
                            replace hK : ∀ v w', v = .pointer (some ⟨wr.heap.size, 1, none⟩) → Below w1.heap.size w1 w' → K (a.put (some 172) v) w' := hK
                            have d15 : a.tmps.getD 15 undef = .pointer (some ⟨wr.heap.size, 0, none⟩) := hk 15 (by kernel_rfl)
                            clear hdep hk hb
                            go_simp
                            exact hK _ _ rfl (Below.refl _ _)
                        · as_aux_lemma =>
                            intro a w1 K hb hdep hk hK
                            replace hK : ∀ v w', v = vg xv → Below w1.heap.size w1 w' → K (a.put (some 173) v) w' := hK
                            have d172 : a.tmps.getD 172 undef = .pointer (some ⟨wr.heap.size, 1, none⟩) := hdep ⟨0, .data⟩ (by simp) rfl (by decide) (by decide)
                            have x0 := (hb.cell (p := ⟨wr.heap.size, 0, none⟩) z3_w9).trans o_BX_0
                            have x1 := (hb.cell (p := ⟨wr.heap.size, 1, none⟩) z3_w9).trans o_BX_1
                            have x2 := (hb.cell (p := ⟨wr.heap.size, 2, none⟩) z3_w9).trans o_BX_2
                            have x3 := (hb.cell (p := ⟨wr.heap.size, 3, none⟩) z3_w9).trans o_BX_3
                            have x4 := (hb.cell (p := ⟨wr.heap.size, 4, none⟩) z3_w9).trans o_BX_4
                            have x5 := (hb.cell (p := ⟨wr.heap.size, 5, none⟩) z3_w9).trans o_BX_5
                            clear hdep hk hb
                            go_simp
                            exact hK _ _ rfl (Below.refl _ _)
                        · as_aux_lemma =>
                            intro a w1 K hb hdep hk hK
                            replace hK : ∀ v w', v = .pointer (some ⟨w.heap.size, 1, none⟩) → Below w1.heap.size w1 w' → K (a.put (some 174) v) w' := hK
                            have d1 : a.tmps.getD 1 undef = .pointer (some ⟨w.heap.size, 0, none⟩) := hk 1 (by kernel_rfl)
                            clear hdep hk hb
                            go_simp
                            exact hK _ _ rfl (Below.refl _ _)
                        · as_aux_lemma =>
                            intro a w1 K hb hdep hk hK
                            replace hK : ∀ v w', v = .slice (some ⟨bC, oC, none⟩) f.costs.length cC → Below w1.heap.size w1 w' → K (a.put (some 175) v) w' := hK
                            have d174 : a.tmps.getD 174 undef = .pointer (some ⟨w.heap.size, 1, none⟩) := hdep ⟨2, .data⟩ (by simp) rfl (by decide) (by decide)
                            have t0 := (hb.cell (p := ⟨w.heap.size, 0, none⟩) z0_w9).trans o_T_0
                            have t1 := (hb.cell (p := ⟨w.heap.size, 1, none⟩) z0_w9).trans o_T_1
                            have t2 := (hb.cell (p := ⟨w.heap.size, 2, none⟩) z0_w9).trans o_T_2
                            have t3 := (hb.cell (p := ⟨w.heap.size, 3, none⟩) z0_w9).trans o_T_3
                            clear hdep hk hb
                            go_simp
                            exact hK _ _ rfl (Below.refl _ _)
                        · as_aux_lemma =>
                            intro a w1 K hb hdep hk hK
                            replace hK : ∀ v w', v = .int .i64 k → Below w1.heap.size w1 w' → K (a.put (some 176) v) w' := hK
                            have d14 : a.tmps.getD 14 undef = .int .i64 k := hk 14 (by kernel_rfl)
                            clear hdep hk hb
                            go_simp
                            exact hK _ _ rfl (Below.refl _ _)
                        · as_aux_lemma =>
                            intro a w1 K hb hdep hk hK
                            replace hK : ∀ v w', v = .pointer (some ⟨bC, oC + k, none⟩) → Below w1.heap.size w1 w' → K (a.put (some 177) v) w' := hK
                            have d175 : a.tmps.getD 175 undef = .slice (some ⟨bC, oC, none⟩) f.costs.length cC := hdep ⟨3, .data⟩ (by simp) rfl (by decide) (by decide)
                            have d176 : a.tmps.getD 176 undef = .int .i64 k := hdep ⟨4, .data⟩ (by simp) rfl (by decide) (by decide)
                            clear hdep hk hb
                            go_simp
                            exact hK _ _ rfl (Below.refl _ _)
                        · as_aux_lemma =>
                            intro a w1 K hb hdep hk hK
                            replace hK : ∀ v w', v = .int .i64 ck → Below w1.heap.size w1 w' → K (a.put (some 178) v) w' := hK
                            have d177 : a.tmps.getD 177 undef = .pointer (some ⟨bC, oC + k, none⟩) := hdep ⟨5, .data⟩ (by simp) rfl (by decide) (by decide)
                            have pC := (hb.cell (p := ⟨bC, oC + k, none⟩) hbD2).trans qD2
                            clear hdep hk hb
                            go_simp
                            exact hK _ _ rfl (Below.refl _ _)
                        · as_aux_lemma =>
                            intro a w1 K hb hdep hk hK
                            replace hK : ∀ v w', v = .tuple #[vg yk, .int .i64 0] → Below w1.heap.size w1 w' → K (a.put (some 179) v) w' := hK
                            have d173 : a.tmps.getD 173 undef = vg xv := hdep ⟨1, .data⟩ (by simp) rfl (by decide) (by decide)
                            have d178 : a.tmps.getD 178 undef = .int .i64 ck := hdep ⟨6, .data⟩ (by simp) rfl (by decide) (by decide)
                            clear hdep hk hb
                            have hcall := hFar2
                            have q173 : a.tmps[173]?.getD undef = vg xv := by simpa [Array.getD_eq_getD_getElem?] using d173
                            clear d173
                            have q178 : a.tmps[178]?.getD undef = .int .i64 ck := by simpa [Array.getD_eq_getD_getElem?] using d178
                            clear d178
                            go_simp
                            refine (hcall.out _).mono ?_
                            rintro e w9 ⟨rfl, r2⟩
                            exact hK _ _ rfl r2
                        · as_aux_lemma =>
                            intro a w1 K hb hdep hk hK
                            replace hK : ∀ v w', v = .tuple #[vg yk, .int .i64 0] → Below w1.heap.size w1 w' → K (a.put (some 171) v) w' := hK
                            have d179 : a.tmps.getD 179 undef = .tuple #[vg yk, .int .i64 0] := hdep ⟨7, .data⟩ (by simp) rfl (by decide) (by decide)
                            clear hdep hk hb
                            have q179 : a.tmps[179]?.getD undef = .tuple #[vg yk, .int .i64 0] := by simpa [Array.getD_eq_getD_getElem?] using d179
                            clear d179
                            go_simp
                            exact hK _ _ rfl (Below.refl _ _)
                        · as_aux_lemma =>
                            intro a w1 K hb hdep hk hK
                            replace hK : ∀ v w', v = vg yk → Below w1.heap.size w1 w' → K (a.put (some 180) v) w' := hK
                            have d171 : a.tmps.getD 171 undef = .tuple #[vg yk, .int .i64 0] := hdep ⟨8, .data⟩ (by simp) rfl (by decide) (by decide)
                            clear hdep hk hb
                            have q171 : a.tmps[171]?.getD undef = .tuple #[vg yk, .int .i64 0] := by simpa [Array.getD_eq_getD_getElem?] using d171
                            clear d171
                            go_simp
                            exact hK _ _ rfl (Below.refl _ _)
                        · as_aux_lemma =>
                            intro a w1 K hb hdep hk hK
                            replace hK : ∀ v w', v = .int .i64 0 → Below w1.heap.size w1 w' → K (a.put (some 181) v) w' := hK
                            have d171 : a.tmps.getD 171 undef = .tuple #[vg yk, .int .i64 0] := hdep ⟨8, .data⟩ (by simp) rfl (by decide) (by decide)
                            clear hdep hk hb
                            have q171 : a.tmps[171]?.getD undef = .tuple #[vg yk, .int .i64 0] := by simpa [Array.getD_eq_getD_getElem?] using d171
                            clear d171
                            go_simp
                            exact hK _ _ rfl (Below.refl _ _)
                        · as_aux_lemma =>
                            intro a w1 K hb hdep hk hK
                            clear hdep hk hb
                            go_simp
                            exact hK
                        · as_aux_lemma =>
                            intro a w1 K hb hdep hk hK
                            obtain ⟨b9, cs, h9, hblk, hcs, hK⟩ : ∃ b9 cs, a.tmps.getD 16 undef = .pointer (some ⟨b9, 0, none⟩) ∧ w1.heap[b9]? = some (.cells cs 29 (0, 0)) ∧ cs.size = 4 ∧ ∀ w', Wrote b9 #[.int .i64 yk.r, .int .i64 yk.c, .int .i64 yk.b, .int .i64 yk.p] 29 w1 w' → K a w' := hK
                            have d180 : a.tmps.getD 180 undef = vg yk := hdep ⟨9, .data⟩ (by simp) rfl (by decide) (by decide)
                            have q180 : a.tmps[180]?.getD undef = vg yk := by simpa [Array.getD_eq_getD_getElem?] using d180
                            clear d180
                            obtain ⟨v0, v1, v2, v3, rfl⟩ : ∃ v0 v1 v2 v3, cs = #[v0, v1, v2, v3] := arr4 cs hcs
                            clear hcs
                            have g0 : w1.cell? ⟨b9, 0, none⟩ = some v0 := Joins.cell_of_block hblk 0
                            have f0 : w1.frozen? ⟨b9, 0, none⟩ = false := frozen_of_row w1 b9 0 _ _ hblk
                            have g1 : w1.cell? ⟨b9, 1, none⟩ = some v1 := Joins.cell_of_block hblk 1
                            have f1 : w1.frozen? ⟨b9, 1, none⟩ = false := frozen_of_row w1 b9 1 _ _ hblk
                            have g2 : w1.cell? ⟨b9, 2, none⟩ = some v2 := Joins.cell_of_block hblk 2
                            have f2 : w1.frozen? ⟨b9, 2, none⟩ = false := frozen_of_row w1 b9 2 _ _ hblk
                            have g3 : w1.cell? ⟨b9, 3, none⟩ = some v3 := Joins.cell_of_block hblk 3
                            have f3 : w1.frozen? ⟨b9, 3, none⟩ = false := frozen_of_row w1 b9 3 _ _ hblk
                            replace hblk := Lib.hid hblk
                            clear hdep hk hb
                            go_simp
                            exact hK _ (((((Wrote.start hblk.out).set (i := 0) _).set (i := 1) _).set (i := 2) _).set (i := 3) _)
                        · as_aux_lemma =>
                            intro a w1 K hb hdep hk hK
                            replace hK : ∀ v w', v = .int .i64 0 → Below w1.heap.size w1 w' → K (a.put (some 17) v) w' := hK
                            have d181 : a.tmps.getD 181 undef = .int .i64 0 := hdep ⟨10, .data⟩ (by simp) rfl (by decide) (by decide)
                            clear hdep hk hb
                            go_simp
                            exact hK _ _ rfl (Below.refl _ _)
                      · intro a w10 b8 hlw10 hsp hk h8 hzb hblk hn hdf
                        have s1 : a.tmps.getD 1 undef = .pointer (some ⟨w.heap.size, 0, none⟩) := hk 1 (by kernel_rfl)
                        have s3 : a.tmps.getD 3 undef = .pointer (some ⟨w4.heap.size, 0, none⟩) := hk 3 (by kernel_rfl)
                        have s4 : a.tmps.getD 4 undef = .int .i64 b := hk 4 (by kernel_rfl)
                        have s5 : a.tmps.getD 5 undef = .int .i64 0 := hk 5 (by kernel_rfl)
                        have s6 : a.tmps.getD 6 undef = .slice A1 f.roles.length c1 := hk 6 (by kernel_rfl)
                        have s7 : a.tmps.getD 7 undef = .int .i64 0 := hk 7 (by kernel_rfl)
                        have s8 : a.tmps.getD 8 undef = .int .i64 vr := hk 8 (by kernel_rfl)
                        have s9 : a.tmps.getD 9 undef = .int .i64 1 := hk 9 (by kernel_rfl)
                        have s12 : a.tmps.getD 12 undef = .pointer (some ⟨b9, 0, none⟩) := hk 12 (by kernel_rfl)
                        have s13 : a.tmps.getD 13 undef = .int .i64 0 := hk 13 (by kernel_rfl)
                        have s14 : a.tmps.getD 14 undef = .int .i64 k := hk 14 (by kernel_rfl)
                        have s15 : a.tmps.getD 15 undef = .pointer (some ⟨wr.heap.size, 0, none⟩) := hk 15 (by kernel_rfl)
                        have s160 : a.tmps.getD 160 undef = .pointer (some ⟨w.heap.size, 3, none⟩) := hk 160 (by kernel_rfl)
                        have s161 : a.tmps.getD 161 undef = .slice (some ⟨bI, oI, none⟩) f.infos.length cI := hk 161 (by kernel_rfl)
                        have s162 : a.tmps.getD 162 undef = .int .i64 f.infos.length := hk 162 (by kernel_rfl)
                        have s163 : a.tmps.getD 163 undef = .int .i64 k := hk 163 (by kernel_rfl)
                        have s16 : a.tmps.getD 16 undef = .pointer (some ⟨b8, 0, none⟩) := h8
                        have s17 : a.tmps.getD 17 undef = .int .i64 0 := hsp 13 (by decide) (by decide) (by decide)
                        have s0 : a.tmps.getD 0 undef = y0 := hk 0 (by kernel_rfl)
                        have s10 : a.tmps.getD 10 undef = y10 := hk 10 (by kernel_rfl)
                        have s11 : a.tmps.getD 11 undef = y11 := hk 11 (by kernel_rfl)
                        have s20 : a.tmps.getD 20 undef = y20 := hk 20 (by kernel_rfl)
                        have s21 : a.tmps.getD 21 undef = y21 := hk 21 (by kernel_rfl)
                        have s22 : a.tmps.getD 22 undef = y22 := hk 22 (by kernel_rfl)
                        have s23 : a.tmps.getD 23 undef = y23 := hk 23 (by kernel_rfl)
                        have s24 : a.tmps.getD 24 undef = y24 := hk 24 (by kernel_rfl)
                        have s25 : a.tmps.getD 25 undef = y25 := hk 25 (by kernel_rfl)
                        have s26 : a.tmps.getD 26 undef = y26 := hk 26 (by kernel_rfl)
                        have s27 : a.tmps.getD 27 undef = y27 := hk 27 (by kernel_rfl)
                        have s28 : a.tmps.getD 28 undef = y28 := hk 28 (by kernel_rfl)
                        have s29 : a.tmps.getD 29 undef = y29 := hk 29 (by kernel_rfl)
                        have s30 : a.tmps.getD 30 undef = y30 := hk 30 (by kernel_rfl)
                        have s31 : a.tmps.getD 31 undef = y31 := hk 31 (by kernel_rfl)
                        have s32 : a.tmps.getD 32 undef = y32 := hk 32 (by kernel_rfl)
                        have s33 : a.tmps.getD 33 undef = y33 := hk 33 (by kernel_rfl)
                        have s34 : a.tmps.getD 34 undef = y34 := hk 34 (by kernel_rfl)
                        have s35 : a.tmps.getD 35 undef = y35 := hk 35 (by kernel_rfl)
                        have s36 : a.tmps.getD 36 undef = y36 := hk 36 (by kernel_rfl)
                        have s37 : a.tmps.getD 37 undef = y37 := hk 37 (by kernel_rfl)
                        have s38 : a.tmps.getD 38 undef = y38 := hk 38 (by kernel_rfl)
                        have s39 : a.tmps.getD 39 undef = y39 := hk 39 (by kernel_rfl)
                        have s40 : a.tmps.getD 40 undef = y40 := hk 40 (by kernel_rfl)
                        have s41 : a.tmps.getD 41 undef = y41 := hk 41 (by kernel_rfl)
                        have s42 : a.tmps.getD 42 undef = y42 := hk 42 (by kernel_rfl)
                        have s43 : a.tmps.getD 43 undef = y43 := hk 43 (by kernel_rfl)
                        have s44 : a.tmps.getD 44 undef = y44 := hk 44 (by kernel_rfl)
                        have s45 : a.tmps.getD 45 undef = y45 := hk 45 (by kernel_rfl)
                        have s46 : a.tmps.getD 46 undef = y46 := hk 46 (by kernel_rfl)
                        have s47 : a.tmps.getD 47 undef = y47 := hk 47 (by kernel_rfl)
                        have s48 : a.tmps.getD 48 undef = y48 := hk 48 (by kernel_rfl)
                        have s49 : a.tmps.getD 49 undef = y49 := hk 49 (by kernel_rfl)
                        have s50 : a.tmps.getD 50 undef = y50 := hk 50 (by kernel_rfl)
                        have s51 : a.tmps.getD 51 undef = y51 := hk 51 (by kernel_rfl)
                        have s52 : a.tmps.getD 52 undef = y52 := hk 52 (by kernel_rfl)
                        have s53 : a.tmps.getD 53 undef = y53 := hk 53 (by kernel_rfl)
                        have s54 : a.tmps.getD 54 undef = y54 := hk 54 (by kernel_rfl)
                        have s55 : a.tmps.getD 55 undef = y55 := hk 55 (by kernel_rfl)
                        have s56 : a.tmps.getD 56 undef = y56 := hk 56 (by kernel_rfl)
                        have s57 : a.tmps.getD 57 undef = y57 := hk 57 (by kernel_rfl)
                        have s58 : a.tmps.getD 58 undef = y58 := hk 58 (by kernel_rfl)
                        have s59 : a.tmps.getD 59 undef = y59 := hk 59 (by kernel_rfl)
                        have s60 : a.tmps.getD 60 undef = y60 := hk 60 (by kernel_rfl)
                        have s61 : a.tmps.getD 61 undef = y61 := hk 61 (by kernel_rfl)
                        have s62 : a.tmps.getD 62 undef = y62 := hk 62 (by kernel_rfl)
                        have s63 : a.tmps.getD 63 undef = y63 := hk 63 (by kernel_rfl)
                        have s64 : a.tmps.getD 64 undef = y64 := hk 64 (by kernel_rfl)
                        have s65 : a.tmps.getD 65 undef = y65 := hk 65 (by kernel_rfl)
                        have s66 : a.tmps.getD 66 undef = y66 := hk 66 (by kernel_rfl)
                        have s67 : a.tmps.getD 67 undef = y67 := hk 67 (by kernel_rfl)
                        have s68 : a.tmps.getD 68 undef = y68 := hk 68 (by kernel_rfl)
                        have s69 : a.tmps.getD 69 undef = y69 := hk 69 (by kernel_rfl)
                        have s70 : a.tmps.getD 70 undef = y70 := hk 70 (by kernel_rfl)
                        have s71 : a.tmps.getD 71 undef = y71 := hk 71 (by kernel_rfl)
                        have s72 : a.tmps.getD 72 undef = y72 := hk 72 (by kernel_rfl)
                        have s73 : a.tmps.getD 73 undef = y73 := hk 73 (by kernel_rfl)
                        have s74 : a.tmps.getD 74 undef = y74 := hk 74 (by kernel_rfl)
                        have s75 : a.tmps.getD 75 undef = y75 := hk 75 (by kernel_rfl)
                        have s76 : a.tmps.getD 76 undef = y76 := hk 76 (by kernel_rfl)
                        have s77 : a.tmps.getD 77 undef = y77 := hk 77 (by kernel_rfl)
                        have s78 : a.tmps.getD 78 undef = y78 := hk 78 (by kernel_rfl)
                        have s79 : a.tmps.getD 79 undef = y79 := hk 79 (by kernel_rfl)
                        have s80 : a.tmps.getD 80 undef = y80 := hk 80 (by kernel_rfl)
                        have s81 : a.tmps.getD 81 undef = y81 := hk 81 (by kernel_rfl)
                        have s82 : a.tmps.getD 82 undef = y82 := hk 82 (by kernel_rfl)
                        have s83 : a.tmps.getD 83 undef = y83 := hk 83 (by kernel_rfl)
                        have s84 : a.tmps.getD 84 undef = y84 := hk 84 (by kernel_rfl)
                        have s85 : a.tmps.getD 85 undef = y85 := hk 85 (by kernel_rfl)
                        have s86 : a.tmps.getD 86 undef = y86 := hk 86 (by kernel_rfl)
                        have s87 : a.tmps.getD 87 undef = y87 := hk 87 (by kernel_rfl)
                        have s88 : a.tmps.getD 88 undef = y88 := hk 88 (by kernel_rfl)
                        have s89 : a.tmps.getD 89 undef = y89 := hk 89 (by kernel_rfl)
                        have s90 : a.tmps.getD 90 undef = y90 := hk 90 (by kernel_rfl)
                        have s91 : a.tmps.getD 91 undef = y91 := hk 91 (by kernel_rfl)
                        have s92 : a.tmps.getD 92 undef = y92 := hk 92 (by kernel_rfl)
                        have s93 : a.tmps.getD 93 undef = y93 := hk 93 (by kernel_rfl)
                        have s94 : a.tmps.getD 94 undef = y94 := hk 94 (by kernel_rfl)
                        have s95 : a.tmps.getD 95 undef = y95 := hk 95 (by kernel_rfl)
                        have s96 : a.tmps.getD 96 undef = y96 := hk 96 (by kernel_rfl)
                        have s97 : a.tmps.getD 97 undef = y97 := hk 97 (by kernel_rfl)
                        have s98 : a.tmps.getD 98 undef = y98 := hk 98 (by kernel_rfl)
                        have s99 : a.tmps.getD 99 undef = y99 := hk 99 (by kernel_rfl)
                        have s100 : a.tmps.getD 100 undef = y100 := hk 100 (by kernel_rfl)
                        have s101 : a.tmps.getD 101 undef = y101 := hk 101 (by kernel_rfl)
                        have s102 : a.tmps.getD 102 undef = y102 := hk 102 (by kernel_rfl)
                        have s103 : a.tmps.getD 103 undef = y103 := hk 103 (by kernel_rfl)
                        have s104 : a.tmps.getD 104 undef = y104 := hk 104 (by kernel_rfl)
                        have s105 : a.tmps.getD 105 undef = y105 := hk 105 (by kernel_rfl)
                        have s106 : a.tmps.getD 106 undef = y106 := hk 106 (by kernel_rfl)
                        have s107 : a.tmps.getD 107 undef = y107 := hk 107 (by kernel_rfl)
                        have s108 : a.tmps.getD 108 undef = y108 := hk 108 (by kernel_rfl)
                        have s109 : a.tmps.getD 109 undef = y109 := hk 109 (by kernel_rfl)
                        have s110 : a.tmps.getD 110 undef = y110 := hk 110 (by kernel_rfl)
                        have s111 : a.tmps.getD 111 undef = y111 := hk 111 (by kernel_rfl)
                        have s112 : a.tmps.getD 112 undef = y112 := hk 112 (by kernel_rfl)
                        have s113 : a.tmps.getD 113 undef = y113 := hk 113 (by kernel_rfl)
                        have s114 : a.tmps.getD 114 undef = y114 := hk 114 (by kernel_rfl)
                        have s115 : a.tmps.getD 115 undef = y115 := hk 115 (by kernel_rfl)
                        have s116 : a.tmps.getD 116 undef = y116 := hk 116 (by kernel_rfl)
                        have s117 : a.tmps.getD 117 undef = y117 := hk 117 (by kernel_rfl)
                        have s118 : a.tmps.getD 118 undef = y118 := hk 118 (by kernel_rfl)
                        have s119 : a.tmps.getD 119 undef = y119 := hk 119 (by kernel_rfl)
                        have s120 : a.tmps.getD 120 undef = y120 := hk 120 (by kernel_rfl)
                        have s121 : a.tmps.getD 121 undef = y121 := hk 121 (by kernel_rfl)
                        have s122 : a.tmps.getD 122 undef = y122 := hk 122 (by kernel_rfl)
                        have s123 : a.tmps.getD 123 undef = y123 := hk 123 (by kernel_rfl)
                        have s124 : a.tmps.getD 124 undef = y124 := hk 124 (by kernel_rfl)
                        have s125 : a.tmps.getD 125 undef = y125 := hk 125 (by kernel_rfl)
                        have s126 : a.tmps.getD 126 undef = y126 := hk 126 (by kernel_rfl)
                        have s127 : a.tmps.getD 127 undef = y127 := hk 127 (by kernel_rfl)
                        have s128 : a.tmps.getD 128 undef = y128 := hk 128 (by kernel_rfl)
                        have s129 : a.tmps.getD 129 undef = y129 := hk 129 (by kernel_rfl)
                        have s130 : a.tmps.getD 130 undef = y130 := hk 130 (by kernel_rfl)
                        have s131 : a.tmps.getD 131 undef = y131 := hk 131 (by kernel_rfl)
                        have s132 : a.tmps.getD 132 undef = y132 := hk 132 (by kernel_rfl)
                        have s133 : a.tmps.getD 133 undef = y133 := hk 133 (by kernel_rfl)
                        have s134 : a.tmps.getD 134 undef = y134 := hk 134 (by kernel_rfl)
                        have s135 : a.tmps.getD 135 undef = y135 := hk 135 (by kernel_rfl)
                        have s136 : a.tmps.getD 136 undef = y136 := hk 136 (by kernel_rfl)
                        have s137 : a.tmps.getD 137 undef = y137 := hk 137 (by kernel_rfl)
                        have s138 : a.tmps.getD 138 undef = y138 := hk 138 (by kernel_rfl)
                        have s139 : a.tmps.getD 139 undef = y139 := hk 139 (by kernel_rfl)
                        have s140 : a.tmps.getD 140 undef = y140 := hk 140 (by kernel_rfl)
                        have s141 : a.tmps.getD 141 undef = y141 := hk 141 (by kernel_rfl)
                        have s142 : a.tmps.getD 142 undef = y142 := hk 142 (by kernel_rfl)
                        have s143 : a.tmps.getD 143 undef = y143 := hk 143 (by kernel_rfl)
                        have s144 : a.tmps.getD 144 undef = y144 := hk 144 (by kernel_rfl)
                        have s145 : a.tmps.getD 145 undef = y145 := hk 145 (by kernel_rfl)
                        have s146 : a.tmps.getD 146 undef = y146 := hk 146 (by kernel_rfl)
                        have s147 : a.tmps.getD 147 undef = y147 := hk 147 (by kernel_rfl)
                        have s148 : a.tmps.getD 148 undef = y148 := hk 148 (by kernel_rfl)
                        have s149 : a.tmps.getD 149 undef = y149 := hk 149 (by kernel_rfl)
                        have s150 : a.tmps.getD 150 undef = y150 := hk 150 (by kernel_rfl)
                        have s151 : a.tmps.getD 151 undef = y151 := hk 151 (by kernel_rfl)
                        have s152 : a.tmps.getD 152 undef = y152 := hk 152 (by kernel_rfl)
                        have s153 : a.tmps.getD 153 undef = y153 := hk 153 (by kernel_rfl)
                        have s154 : a.tmps.getD 154 undef = y154 := hk 154 (by kernel_rfl)
                        have s155 : a.tmps.getD 155 undef = y155 := hk 155 (by kernel_rfl)
                        have s156 : a.tmps.getD 156 undef = y156 := hk 156 (by kernel_rfl)
                        have s157 : a.tmps.getD 157 undef = y157 := hk 157 (by kernel_rfl)
                        have s158 : a.tmps.getD 158 undef = y158 := hk 158 (by kernel_rfl)
                        have s159 : a.tmps.getD 159 undef = y159 := hk 159 (by kernel_rfl)
                        have s208 : a.tmps.getD 208 undef = y208 := hk 208 (by kernel_rfl)
                        have s209 : a.tmps.getD 209 undef = y209 := hk 209 (by kernel_rfl)
                        have s210 : a.tmps.getD 210 undef = y210 := hk 210 (by kernel_rfl)
                        have s211 : a.tmps.getD 211 undef = y211 := hk 211 (by kernel_rfl)
                        have s212 : a.tmps.getD 212 undef = y212 := hk 212 (by kernel_rfl)
                        have s213 : a.tmps.getD 213 undef = y213 := hk 213 (by kernel_rfl)
                        have s214 : a.tmps.getD 214 undef = y214 := hk 214 (by kernel_rfl)
                        have s215 : a.tmps.getD 215 undef = y215 := hk 215 (by kernel_rfl)
                        have s216 : a.tmps.getD 216 undef = y216 := hk 216 (by kernel_rfl)
                        have s217 : a.tmps.getD 217 undef = y217 := hk 217 (by kernel_rfl)
                        have s218 : a.tmps.getD 218 undef = y218 := hk 218 (by kernel_rfl)
                        have s219 : a.tmps.getD 219 undef = y219 := hk 219 (by kernel_rfl)
                        have s220 : a.tmps.getD 220 undef = y220 := hk 220 (by kernel_rfl)
                        clear hk hsp h8
                        obtain ⟨tm, df⟩ := a
                        have e := arr_out tm 221 hn
                        replace e : tm = #[tm.getD 0 undef, tm.getD 1 undef, tm.getD 2 undef, tm.getD 3 undef, tm.getD 4 undef, tm.getD 5 undef, tm.getD 6 undef, tm.getD 7 undef, tm.getD 8 undef, tm.getD 9 undef, tm.getD 10 undef, tm.getD 11 undef, tm.getD 12 undef, tm.getD 13 undef, tm.getD 14 undef, tm.getD 15 undef, tm.getD 16 undef, tm.getD 17 undef, tm.getD 18 undef, tm.getD 19 undef, tm.getD 20 undef, tm.getD 21 undef, tm.getD 22 undef, tm.getD 23 undef, tm.getD 24 undef, tm.getD 25 undef, tm.getD 26 undef, tm.getD 27 undef, tm.getD 28 undef, tm.getD 29 undef, tm.getD 30 undef, tm.getD 31 undef, tm.getD 32 undef, tm.getD 33 undef, tm.getD 34 undef, tm.getD 35 undef, tm.getD 36 undef, tm.getD 37 undef, tm.getD 38 undef, tm.getD 39 undef, tm.getD 40 undef, tm.getD 41 undef, tm.getD 42 undef, tm.getD 43 undef, tm.getD 44 undef, tm.getD 45 undef, tm.getD 46 undef, tm.getD 47 undef, tm.getD 48 undef, tm.getD 49 undef, tm.getD 50 undef, tm.getD 51 undef, tm.getD 52 undef, tm.getD 53 undef, tm.getD 54 undef, tm.getD 55 undef, tm.getD 56 undef, tm.getD 57 undef, tm.getD 58 undef, tm.getD 59 undef, tm.getD 60 undef, tm.getD 61 undef, tm.getD 62 undef, tm.getD 63 undef, tm.getD 64 undef, tm.getD 65 undef, tm.getD 66 undef, tm.getD 67 undef, tm.getD 68 undef, tm.getD 69 undef, tm.getD 70 undef, tm.getD 71 undef, tm.getD 72 undef, tm.getD 73 undef, tm.getD 74 undef, tm.getD 75 undef, tm.getD 76 undef, tm.getD 77 undef, tm.getD 78 undef, tm.getD 79 undef, tm.getD 80 undef, tm.getD 81 undef, tm.getD 82 undef, tm.getD 83 undef, tm.getD 84 undef, tm.getD 85 undef, tm.getD 86 undef, tm.getD 87 undef, tm.getD 88 undef, tm.getD 89 undef, tm.getD 90 undef, tm.getD 91 undef, tm.getD 92 undef, tm.getD 93 undef, tm.getD 94 undef, tm.getD 95 undef, tm.getD 96 undef, tm.getD 97 undef, tm.getD 98 undef, tm.getD 99 undef, tm.getD 100 undef, tm.getD 101 undef, tm.getD 102 undef, tm.getD 103 undef, tm.getD 104 undef, tm.getD 105 undef, tm.getD 106 undef, tm.getD 107 undef, tm.getD 108 undef, tm.getD 109 undef, tm.getD 110 undef, tm.getD 111 undef, tm.getD 112 undef, tm.getD 113 undef, tm.getD 114 undef, tm.getD 115 undef, tm.getD 116 undef, tm.getD 117 undef, tm.getD 118 undef, tm.getD 119 undef, tm.getD 120 undef, tm.getD 121 undef, tm.getD 122 undef, tm.getD 123 undef, tm.getD 124 undef, tm.getD 125 undef, tm.getD 126 undef, tm.getD 127 undef, tm.getD 128 undef, tm.getD 129 undef, tm.getD 130 undef, tm.getD 131 undef, tm.getD 132 undef, tm.getD 133 undef, tm.getD 134 undef, tm.getD 135 undef, tm.getD 136 undef, tm.getD 137 undef, tm.getD 138 undef, tm.getD 139 undef, tm.getD 140 undef, tm.getD 141 undef, tm.getD 142 undef, tm.getD 143 undef, tm.getD 144 undef, tm.getD 145 undef, tm.getD 146 undef, tm.getD 147 undef, tm.getD 148 undef, tm.getD 149 undef, tm.getD 150 undef, tm.getD 151 undef, tm.getD 152 undef, tm.getD 153 undef, tm.getD 154 undef, tm.getD 155 undef, tm.getD 156 undef, tm.getD 157 undef, tm.getD 158 undef, tm.getD 159 undef, tm.getD 160 undef, tm.getD 161 undef, tm.getD 162 undef, tm.getD 163 undef, tm.getD 164 undef, tm.getD 165 undef, tm.getD 166 undef, tm.getD 167 undef, tm.getD 168 undef, tm.getD 169 undef, tm.getD 170 undef, tm.getD 171 undef, tm.getD 172 undef, tm.getD 173 undef, tm.getD 174 undef, tm.getD 175 undef, tm.getD 176 undef, tm.getD 177 undef, tm.getD 178 undef, tm.getD 179 undef, tm.getD 180 undef, tm.getD 181 undef, tm.getD 182 undef, tm.getD 183 undef, tm.getD 184 undef, tm.getD 185 undef, tm.getD 186 undef, tm.getD 187 undef, tm.getD 188 undef, tm.getD 189 undef, tm.getD 190 undef, tm.getD 191 undef, tm.getD 192 undef, tm.getD 193 undef, tm.getD 194 undef, tm.getD 195 undef, tm.getD 196 undef, tm.getD 197 undef, tm.getD 198 undef, tm.getD 199 undef, tm.getD 200 undef, tm.getD 201 undef, tm.getD 202 undef, tm.getD 203 undef, tm.getD 204 undef, tm.getD 205 undef, tm.getD 206 undef, tm.getD 207 undef, tm.getD 208 undef, tm.getD 209 undef, tm.getD 210 undef, tm.getD 211 undef, tm.getD 212 undef, tm.getD 213 undef, tm.getD 214 undef, tm.getD 215 undef, tm.getD 216 undef, tm.getD 217 undef, tm.getD 218 undef, tm.getD 219 undef, tm.getD 220 undef] := e
                        simp only at s1 s3 s4 s5 s6 s7 s8 s9 s12 s13 s14 s15 s160 s161 s162 s163 s16 s17 s0 s10 s11 s20 s21 s22 s23 s24 s25 s26 s27 s28 s29 s30 s31 s32 s33 s34 s35 s36 s37 s38 s39 s40 s41 s42 s43 s44 s45 s46 s47 s48 s49 s50 s51 s52 s53 s54 s55 s56 s57 s58 s59 s60 s61 s62 s63 s64 s65 s66 s67 s68 s69 s70 s71 s72 s73 s74 s75 s76 s77 s78 s79 s80 s81 s82 s83 s84 s85 s86 s87 s88 s89 s90 s91 s92 s93 s94 s95 s96 s97 s98 s99 s100 s101 s102 s103 s104 s105 s106 s107 s108 s109 s110 s111 s112 s113 s114 s115 s116 s117 s118 s119 s120 s121 s122 s123 s124 s125 s126 s127 s128 s129 s130 s131 s132 s133 s134 s135 s136 s137 s138 s139 s140 s141 s142 s143 s144 s145 s146 s147 s148 s149 s150 s151 s152 s153 s154 s155 s156 s157 s158 s159 s208 s209 s210 s211 s212 s213 s214 s215 s216 s217 s218 s219 s220 hdf
                        rw [s1, s3, s4, s5, s6, s7, s8, s9, s12, s13, s14, s15, s160, s161, s162, s163, s16, s17, s0, s10, s11, s20, s21, s22, s23, s24, s25, s26, s27, s28, s29, s30, s31, s32, s33, s34, s35, s36, s37, s38, s39, s40, s41, s42, s43, s44, s45, s46, s47, s48, s49, s50, s51, s52, s53, s54, s55, s56, s57, s58, s59, s60, s61, s62, s63, s64, s65, s66, s67, s68, s69, s70, s71, s72, s73, s74, s75, s76, s77, s78, s79, s80, s81, s82, s83, s84, s85, s86, s87, s88, s89, s90, s91, s92, s93, s94, s95, s96, s97, s98, s99, s100, s101, s102, s103, s104, s105, s106, s107, s108, s109, s110, s111, s112, s113, s114, s115, s116, s117, s118, s119, s120, s121, s122, s123, s124, s125, s126, s127, s128, s129, s130, s131, s132, s133, s134, s135, s136, s137, s138, s139, s140, s141, s142, s143, s144, s145, s146, s147, s148, s149, s150, s151, s152, s153, s154, s155, s156, s157, s158, s159, s208, s209, s210, s211, s212, s213, s214, s215, s216, s217, s218, s219, s220] at e
                        subst hdf
                        clear s1 s3 s4 s5 s6 s7 s8 s9 s12 s13 s14 s15 s160 s161 s162 s163 s16 s17 s0 s10 s11 s20 s21 s22 s23 s24 s25 s26 s27 s28 s29 s30 s31 s32 s33 s34 s35 s36 s37 s38 s39 s40 s41 s42 s43 s44 s45 s46 s47 s48 s49 s50 s51 s52 s53 s54 s55 s56 s57 s58 s59 s60 s61 s62 s63 s64 s65 s66 s67 s68 s69 s70 s71 s72 s73 s74 s75 s76 s77 s78 s79 s80 s81 s82 s83 s84 s85 s86 s87 s88 s89 s90 s91 s92 s93 s94 s95 s96 s97 s98 s99 s100 s101 s102 s103 s104 s105 s106 s107 s108 s109 s110 s111 s112 s113 s114 s115 s116 s117 s118 s119 s120 s121 s122 s123 s124 s125 s126 s127 s128 s129 s130 s131 s132 s133 s134 s135 s136 s137 s138 s139 s140 s141 s142 s143 s144 s145 s146 s147 s148 s149 s150 s151 s152 s153 s154 s155 s156 s157 s158 s159 s208 s209 s210 s211 s212 s213 s214 s215 s216 s217 s218 s219 s220 hn
                        generalize tm.getD 2 undef = u2 at e
                        generalize tm.getD 18 undef = u18 at e
                        generalize tm.getD 19 undef = u19 at e
                        generalize tm.getD 164 undef = u164 at e
                        generalize tm.getD 165 undef = u165 at e
                        generalize tm.getD 166 undef = u166 at e
                        generalize tm.getD 167 undef = u167 at e
                        generalize tm.getD 168 undef = u168 at e
                        generalize tm.getD 169 undef = u169 at e
                        generalize tm.getD 170 undef = u170 at e
                        generalize tm.getD 171 undef = u171 at e
                        generalize tm.getD 172 undef = u172 at e
                        generalize tm.getD 173 undef = u173 at e
                        generalize tm.getD 174 undef = u174 at e
                        generalize tm.getD 175 undef = u175 at e
                        generalize tm.getD 176 undef = u176 at e
                        generalize tm.getD 177 undef = u177 at e
                        generalize tm.getD 178 undef = u178 at e
                        generalize tm.getD 179 undef = u179 at e
                        generalize tm.getD 180 undef = u180 at e
                        generalize tm.getD 181 undef = u181 at e
                        generalize tm.getD 182 undef = u182 at e
                        generalize tm.getD 183 undef = u183 at e
                        generalize tm.getD 184 undef = u184 at e
                        generalize tm.getD 185 undef = u185 at e
                        generalize tm.getD 186 undef = u186 at e
                        generalize tm.getD 187 undef = u187 at e
                        generalize tm.getD 188 undef = u188 at e
                        generalize tm.getD 189 undef = u189 at e
                        generalize tm.getD 190 undef = u190 at e
                        generalize tm.getD 191 undef = u191 at e
                        generalize tm.getD 192 undef = u192 at e
                        generalize tm.getD 193 undef = u193 at e
                        generalize tm.getD 194 undef = u194 at e
                        generalize tm.getD 195 undef = u195 at e
                        generalize tm.getD 196 undef = u196 at e
                        generalize tm.getD 197 undef = u197 at e
                        generalize tm.getD 198 undef = u198 at e
                        generalize tm.getD 199 undef = u199 at e
                        generalize tm.getD 200 undef = u200 at e
                        generalize tm.getD 201 undef = u201 at e
                        generalize tm.getD 202 undef = u202 at e
                        generalize tm.getD 203 undef = u203 at e
                        generalize tm.getD 204 undef = u204 at e
                        generalize tm.getD 205 undef = u205 at e
                        generalize tm.getD 206 undef = u206 at e
                        generalize tm.getD 207 undef = u207 at e
                        subst e
                        clear o_T_0 o_T_1 o_T_2 o_T_3 o_BX_0 o_BX_1 o_BX_2 o_BX_3 o_BX_4 o_BX_5
                        have T_w10 := Lib.hid (T_w9.out.below hlw10)
                        have A_w10 := Lib.hid (A_w9.out.below hlw10)
                        have BV_w10 := Lib.hid (BV_w9.out.below hlw10)
                        have R_w10 := Lib.hid (R_w9.out.below hlw10)
                        have BB_w10 := Lib.hid (BB_w9.out.below hlw10)
                        have BW_w10 := Lib.hid (BW_w9.out.below hlw10)
                        have BX_w10 := Lib.hid (BX_w9.out.below hlw10)
                        have BK_w10 := Lib.hid (show Bx w10 b8 29 #[.int .i64 yk.r, .int .i64 yk.c, .int .i64 yk.b, .int .i64 yk.p] from hblk)
                        have z0_w10 : w.heap.size < w10.heap.size := Nat.lt_of_lt_of_le z0_w9 hlw10.size
                        have z1_w10 : w4.heap.size < w10.heap.size := Nat.lt_of_lt_of_le z1_w9 hlw10.size
                        have z2_w10 : b9 < w10.heap.size := Nat.lt_of_lt_of_le z2_w9 hlw10.size
                        have z3_w10 : wr.heap.size < w10.heap.size := Nat.lt_of_lt_of_le z3_w9 hlw10.size
                        have B_w10 := bt B_w9 hlw10
                        clear T_w9 A_w9 BV_w9 R_w9 BB_w9 BW_w9 BX_w9 z0_w9 z1_w9 z2_w9 z3_w9 B_w9 hlw10
                        have z8 : b8 < w10.heap.size := (show Bx w10 b8 29 _ from hblk).lt
                        clear hblk hzb qD2 hbD2
                        simp only [Exit.then]
                        have o_BK_0 := BK_w10.out.c (i := 0) rfl
                        have o_BK_1 := BK_w10.out.c (i := 1) rfl
                        have o_BK_2 := BK_w10.out.c (i := 2) rfl
                        have o_BK_3 := BK_w10.out.c (i := 3) rfl
                        have o_BB_0 := BB_w10.out.c (i := 0) rfl
                        have o_BB_1 := BB_w10.out.c (i := 1) rfl
                        have o_BB_2 := BB_w10.out.c (i := 2) rfl
                        have o_BB_3 := BB_w10.out.c (i := 3) rfl
                        go_wp2_with fail
                        clear o_BK_0 o_BK_1 o_BK_2 o_BK_3 o_BB_0 o_BB_1 o_BB_2 o_BB_3
                        go_at_call 20
                        (with_reducible refine (better_to hwk2.out hwok.out hl8.out _).mono ?_)
                        rintro e w11 ⟨rfl, hb11⟩
                        have T_w11 := Lib.hid (T_w10.out.below hb11)
                        have A_w11 := Lib.hid (A_w10.out.below hb11)
                        have BV_w11 := Lib.hid (BV_w10.out.below hb11)
                        have R_w11 := Lib.hid (R_w10.out.below hb11)
                        have BB_w11 := Lib.hid (BB_w10.out.below hb11)
                        have BW_w11 := Lib.hid (BW_w10.out.below hb11)
                        have BX_w11 := Lib.hid (BX_w10.out.below hb11)
                        have BK_w11 := Lib.hid (BK_w10.out.below hb11)
                        have z0_w11 : w.heap.size < w11.heap.size := Nat.lt_of_lt_of_le z0_w10 hb11.size
                        have z1_w11 : w4.heap.size < w11.heap.size := Nat.lt_of_lt_of_le z1_w10 hb11.size
                        have z2_w11 : b9 < w11.heap.size := Nat.lt_of_lt_of_le z2_w10 hb11.size
                        have z3_w11 : wr.heap.size < w11.heap.size := Nat.lt_of_lt_of_le z3_w10 hb11.size
                        have z4_w11 : b8 < w11.heap.size := Nat.lt_of_lt_of_le z8 hb11.size
                        have B_w11 := bt B_w10 hb11
                        clear T_w10 A_w10 BV_w10 R_w10 BB_w10 BW_w10 BX_w10 BK_w10 z0_w10 z1_w10 z2_w10 z3_w10 z8 B_w10 hb11
                        have hE := fun W => eql_vec yk yb W
                        cases e7 : decide (yk = yb)
                        · rw [e7] at hE
                          replace e7 := Lib.hid e7
                          have o_BK_0 := BK_w11.out.c (i := 0) rfl
                          have o_BK_1 := BK_w11.out.c (i := 1) rfl
                          have o_BK_2 := BK_w11.out.c (i := 2) rfl
                          have o_BK_3 := BK_w11.out.c (i := 3) rfl
                          have o_BB_0 := BB_w11.out.c (i := 0) rfl
                          have o_BB_1 := BB_w11.out.c (i := 1) rfl
                          have o_BB_2 := BB_w11.out.c (i := 2) rfl
                          have o_BB_3 := BB_w11.out.c (i := 3) rfl
                          go_wp2_with fail
                          go_roundw
                          case rel => exact ⟨k + 1, by omega, by go_num, BW_w11.out.b⟩
                          case measure => (simp [intOf]) <;> omega
                        · rw [e7] at hE
                          have hkb : ¬ (k : Int) < (b : Int) := by have := hl9.out (by simpa using e7); omega
                          replace e7 := Lib.hid e7
                          have o_BK_0 := BK_w11.out.c (i := 0) rfl
                          have o_BK_1 := BK_w11.out.c (i := 1) rfl
                          have o_BK_2 := BK_w11.out.c (i := 2) rfl
                          have o_BK_3 := BK_w11.out.c (i := 3) rfl
                          have o_BB_0 := BB_w11.out.c (i := 0) rfl
                          have o_BB_1 := BB_w11.out.c (i := 1) rfl
                          have o_BB_2 := BB_w11.out.c (i := 2) rfl
                          have o_BB_3 := BB_w11.out.c (i := 3) rfl
                          go_wp2_with fail
                          go_roundw
                          case rel => exact ⟨k + 1, by omega, by go_num, BW_w11.out.b⟩
                          case measure => (simp [intOf]) <;> omega
                · obtain rfl : k = f.infos.length := by omega
                  have o_BV_0 := BV_wr.out.c (i := 0) rfl
                  have o_BV_1 := BV_wr.out.c (i := 1) rfl
                  have o_BV_2 := BV_wr.out.c (i := 2) rfl
                  have o_BV_3 := BV_wr.out.c (i := 3) rfl
                  have o_BB_0 := BB_wr.out.c (i := 0) rfl
                  have o_BB_1 := BB_wr.out.c (i := 1) rfl
                  have o_BB_2 := BB_wr.out.c (i := 2) rfl
                  have o_BB_3 := BB_wr.out.c (i := 3) rfl
                  go_wp2_with fail
                  go_ret
                  exact ⟨rfl, B_wr⟩
end Go.Proofs.Ytdnpcpehjjildaa.RoleP
