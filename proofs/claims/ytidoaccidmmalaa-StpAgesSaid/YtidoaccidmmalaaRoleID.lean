/-
  Contract of role.roleOf.
-/
import Derived.Test.YtidoaccidmmalaaRoleIC
namespace Go.Proofs.Ytidoaccidmmalaa.RoleP
open Go.Proofs.Ytidoaccidmmalaa.MacP (arr_out Wrote)
open Go.RowKit Go.Sort Go.Proofs.Ytidoaccidmmalaa.SliceP Go.Proofs.Ytidoaccidmmalaa.BoxP Go.Proofs.Ytidoaccidmmalaa.VecP
open Go.Proofs.Ytidoaccidmmalaa.IntP (RowI SlI OwnI)
open Go.Proofs.Ytidoaccidmmalaa.BoolP (RowB SlB)
set_option linter.unusedVariables false
set_option maxRecDepth 100000
theorem fieldC (v : V) (a : Int) (w : World) : (Instr.field 33 (cg v a) 0).run Try.prog w = .ok (vg v) w := by kernel_rfl
theorem tk_ok {s : S} (hok : s.ok = true) {p : Nat} (hp : p < s.costs.length) : (s.tells p).ok = true := by
  obtain ⟨h1, h2, h3, h4⟩ := head_iff.1 (ok_head hok)
  unfold S.tells
  cases hr : s.root with
  | none => exact (okV_iff _ _ _ _).2 (by simp only; omega)
  | some b =>
    obtain ⟨h5, h6⟩ := root_lt hr
    have := (okV_iff _ _ _ _).1 (wk_ok hok (p := b) (by omega) h6)
    exact (okV_iff _ _ _ _).2 (by simp only; omega)
set_option maxHeartbeats 16000000 in
theorem o_role {s : S} {AC : Option Addr} {cC : Nat} {AU : Option Addr} {cU : Nat} {AI : Option Addr} {cI : Nat} {w : World} (hF : Fit s) (hS : SelfR w s AC cC AU cU AI cI) {p : Nat} (hp : p < s.costs.length) :
    Calls Try.prog 68 #[selfV s.id (.slice AC s.costs.length cC) (.slice AU s.ups.length cU) (.slice AI s.infos.length cI), wayV s s.root, .int .i64 p] w fun e w' => e = .returned (.int .i64 (s.role p)) ∧ Below w.heap.size w w' := by
  obtain ⟨w0, hw0⟩ : ∃ W, W = w.alloc (.cells #[.int .i64 s.id, .slice AC s.costs.length cC, .slice AU s.ups.length cU, .slice AI s.infos.length cI] 26) := ⟨_, rfl⟩
  have I := Lib.hid (show InS w w0 s AC cC AU cU AI cI by rw [hw0]; exact .new hS)
  have hz0 := I.out.x.lt
  have B0 := I.out.b
  obtain ⟨⟨l1, l2⟩, l3, l4⟩ := hF.len
  have hpu : p < s.ups.length := by omega
  have hpi : p < s.infos.length := by omega
  have hpu2 : (p : Int) < (s.ups.length : Int) := by omega
  have hpi2 : (p : Int) < (s.infos.length : Int) := by omega
  have hm3 : s.ups.length ≤ 8 := by omega
  have hm4 : s.infos.length ≤ 8 := by omega
  obtain ⟨bI, oI, rfl, hbI, q0, q1, q2, q3, q4, q5⟩ := SlN.at_ I.out.r.infos.sl (info_at (s := s) (p := p) hpi)
  obtain ⟨r, hr⟩ : ∃ r, s.role p = r := ⟨_, rfl⟩
  rw [hr]
  unfold S.role at hr
  have hvt := Lib.hid (tk_ok hF.ok hp)
  have hvi := Lib.hid (ok_info hF.ok hp).2.1
  obtain ⟨x, hx⟩ : ∃ x, s.info p = x := ⟨_, rfl⟩
  rw [hx] at q0 q1 q2 q3 q4 q5 hr hvi
  replace hx := Lib.hid hx
  obtain ⟨T, hT⟩ : ∃ v, s.tells p = v := ⟨_, rfl⟩
  rw [hT] at hr hvt
  obtain ⟨up, hup⟩ : ∃ u, s.up p = u := ⟨_, rfl⟩
  rw [hup] at hr hvi
  replace hup := Lib.hid hup
  have hage := Lib.hid (show ∀ b, s.root = some b → 0 ≤ (s.info b).age ∧ (s.info b).age ≤ 255 from fun b h => (ok_info hF.ok (by have := (root_lt h).1; omega)).1)
  clear hS l1 l2 l3 l4 hF hp
  cases hrt : s.root with
  | none =>
    rw [show wayV s none = noI from rfl]
    have hti : T = ⟨s.id, 0, s.id, p⟩ := by rw [← hT]; unfold S.tells; rw [hrt]
    have hme := meth_none (.agg #[])
    have htd := Lib.hid fun W => told_none s.id p W
    rw [← hti] at htd
    have hpo := Lib.hid port_of_none
    have hn0 : s.root = some p ↔ (p : Int) = -1 := by rw [hrt]; (simp) <;> omega
    obtain ⟨n, hn⟩ : ∃ n : Int, -1 = n := ⟨_, rfl⟩
    rw [hn] at hn0 hpo
    replace hn := Lib.hid hn
    obtain ⟨ag, hag⟩ : ∃ a : Int, 0 = a := ⟨_, rfl⟩
    rw [hag] at htd
    rw [hrt] at hn0 hr
    replace hag := Lib.hid hag
    have hrt' := Lib.hid hrt
    clear hrt hti hT hage
    go_enter Try.func68, Try.ntmps68
    go_upto_region 1 with fail
    rw [← hw0]
    clear hw0
    have o_I_0 := I.out.c (i := 0) rfl
    have o_I_1 := I.out.c (i := 1) rfl
    have o_I_2 := I.out.c (i := 2) rfl
    have o_I_3 := I.out.c (i := 3) rfl
    go_upto_region 2 with fail
    clear o_I_0 o_I_1 o_I_2 o_I_3
    obtain ⟨w1, hw1⟩ : ∃ W, W = w0.alloc (.cells #[.bool x.has, .int .i64 x.v.r, .int .i64 x.v.c, .int .i64 x.v.b, .int .i64 x.v.p, .int .i64 x.age] 66) := ⟨_, rfl⟩
    have bw1 : Below w0.heap.size w0 w1 := by rw [hw1]; exact (Below.refl _ _).alloc (Nat.le_refl _) _
    have Xw1 : Bx w1 w0.heap.size 66 #[.bool x.has, .int .i64 x.v.r, .int .i64 x.v.c, .int .i64 x.v.b, .int .i64 x.v.p, .int .i64 x.age] := by rw [hw1]; exact Bx.new _ _ _ rfl
    rw [← hw1]
    clear hw1
    have I_w1 := Lib.hid (I.out.below bw1)
    have N_w1 := Lib.hid (Xw1)
    have z0_w1 : w.heap.size < w1.heap.size := Nat.lt_of_lt_of_le hz0 bw1.size
    have B_w1 := bt B0 bw1
    clear I hz0 B0 bw1
    have z1_w1 : w0.heap.size < w1.heap.size := Xw1.lt
    clear Xw1
    obtain ⟨bU, oU, rfl, hbU, qU⟩ := BoolP.SlB.at_ I_w1.out.r.ups.sl (up_at (s := s) (p := p) hpu)
    rw [hup.out] at qU
    clear q0 q1 q2 q3 q4 q5 hbI
    have o_I_0 := I_w1.out.c (i := 0) rfl
    have o_I_1 := I_w1.out.c (i := 1) rfl
    have o_I_2 := I_w1.out.c (i := 2) rfl
    have o_I_3 := I_w1.out.c (i := 3) rfl
    cases up with
    | false =>
      replace hr := Lib.hid hr
      go_wp2_with fail
      go_ret
      exact ⟨by rw [← hr.out]; rfl, B_w1⟩
    | true =>
      simp only [Bool.true_eq_false, if_false] at hr
      by_cases hc : (p : Int) = n
      · rw [if_pos (by have := hn0.2 hc; first | exact this | simpa using this)] at hr
        have hc' : ((p : Int) == n) = true := by simpa using hc
        replace hc := Lib.hid hc
        replace hr := Lib.hid hr
        replace hn0 := Lib.hid hn0
        go_wp2_with fail
        clear o_I_0 o_I_1 o_I_2 o_I_3
        clear qU hbU
        go_at_call 59
        (with_reducible refine (hpo.out _).mono ?_)
        rintro e w2 ⟨rfl, hb2⟩
        have I_w2 := Lib.hid (I_w1.out.below hb2)
        have N_w2 := Lib.hid (N_w1.out.below hb2)
        have z0_w2 : w.heap.size < w2.heap.size := Nat.lt_of_lt_of_le z0_w1 hb2.size
        have z1_w2 : w0.heap.size < w2.heap.size := Nat.lt_of_lt_of_le z1_w1 hb2.size
        have B_w2 := bt B_w1 hb2
        clear I_w1 N_w1 z0_w1 z1_w1 B_w1 hb2
        go_wp2_with fail
        go_ret
        exact ⟨by rw [← hr.out]; rfl, B_w2⟩
      · rw [if_neg (fun h => hc (hn0.1 (by first | exact h | simpa using h)))] at hr
        have hc' : ((p : Int) == n) = false := by simpa using hc
        replace hc := Lib.hid hc
        replace hr := Lib.hid hr
        replace hn0 := Lib.hid hn0
        have hfd := fieldC T ag
        go_wp2_with fail
        clear o_I_0 o_I_1 o_I_2 o_I_3
        clear qU hbU
        go_at_call 59
        (with_reducible refine (hpo.out _).mono ?_)
        rintro e w2 ⟨rfl, hb2⟩
        have I_w2 := Lib.hid (I_w1.out.below hb2)
        have N_w2 := Lib.hid (N_w1.out.below hb2)
        have z0_w2 : w.heap.size < w2.heap.size := Nat.lt_of_lt_of_le z0_w1 hb2.size
        have z1_w2 : w0.heap.size < w2.heap.size := Nat.lt_of_lt_of_le z1_w1 hb2.size
        have B_w2 := bt B_w1 hb2
        clear I_w1 N_w1 z0_w1 z1_w1 B_w1 hb2
        go_upto_region 6 with fail
        obtain ⟨hs, hhs⟩ : ∃ h, x.has = h := ⟨_, rfl⟩
        obtain ⟨β, hβ⟩ : ∃ β, x.v.bet T = β := ⟨_, rfl⟩
        rw [hhs, hβ] at hr
        cases hs with
        | false =>
          replace hβ := Lib.hid hβ
          have J0 := cell_regrown (N_w2.out.c (i := 0) rfl)
          rw [hhs] at J0
          clear hhs
          refine wp_region_quiet_below (by kernel_rfl) (by kernel_rfl) ?_
          repeat (first | go_big_quiet_step (fail) | quiet_step (fail))
          refine wpQuiet_nil ?_
          intro _ hw'
          obtain ⟨⟨dq, osq⟩, hw''⟩ := hw'
          subst hw''
          have hqw3 := below_regrown w2 dq osq
          generalize Go.Sort.grow (redrawn w2 dq) osq = w3 at *
          have I_w3 := Lib.hid (I_w2.out.below hqw3)
          have N_w3 := Lib.hid (N_w2.out.below hqw3)
          have z0_w3 : w.heap.size < w3.heap.size := Nat.lt_of_lt_of_le z0_w2 hqw3.size
          have z1_w3 : w0.heap.size < w3.heap.size := Nat.lt_of_lt_of_le z1_w2 hqw3.size
          have B_w3 := bt B_w2 hqw3
          clear I_w2 N_w2 z0_w2 z1_w2 B_w2 hqw3
          clear J0
          go_wp2_with fail
          go_ret
          exact ⟨by rw [← hr.out]; rfl, B_w3⟩
        | true =>
          have hvb := Lib.hid fun W => vb_to x.v T β ((hvi.out hhs).2) hvt.out hβ W
          replace hβ := Lib.hid hβ
          have J0 := cell_regrown (N_w2.out.c (i := 0) rfl)
          rw [hhs] at J0
          clear hhs
          have J1 := cell_regrown (N_w2.out.c (i := 1) rfl)
          have J2 := cell_regrown (N_w2.out.c (i := 2) rfl)
          have J3 := cell_regrown (N_w2.out.c (i := 3) rfl)
          have J4 := cell_regrown (N_w2.out.c (i := 4) rfl)
          have J5 := cell_regrown (N_w2.out.c (i := 5) rfl)
          cases β
          all_goals
            have K_I_0 := cell_regrown (I_w2.out.c (i := 0) rfl)
            have K_I_1 := cell_regrown (I_w2.out.c (i := 1) rfl)
            have K_I_2 := cell_regrown (I_w2.out.c (i := 2) rfl)
            have K_I_3 := cell_regrown (I_w2.out.c (i := 3) rfl)
            have cC0 := fun (d : Nat) (os : Array Obj) => Calls.regrown_of (htd.out (Go.Sort.grow (redrawn w2 d) os))
            have cC1 := fun (d : Nat) (os : Array Obj) => Calls.regrown_of (hvb.out (Go.Sort.grow (redrawn w2 d) os))
            refine wp_region_quiet_below (by kernel_rfl) (by kernel_rfl) ?_
            repeat (first | go_big_quiet_step (first | with_reducible exact cC0 _ _ | with_reducible exact cC1 _ _) | quiet_step (first | with_reducible exact cC0 _ _ | with_reducible exact cC1 _ _))
            refine wpQuiet_nil ?_
            intro _ hw'
            obtain ⟨⟨dq, osq⟩, hw''⟩ := hw'
            subst hw''
            have hqw3 := below_regrown w2 dq osq
            clear K_I_0 K_I_1 K_I_2 K_I_3 cC0 cC1
            generalize Go.Sort.grow (redrawn w2 dq) osq = w3 at *
            have I_w3 := Lib.hid (I_w2.out.below hqw3)
            have N_w3 := Lib.hid (N_w2.out.below hqw3)
            have z0_w3 : w.heap.size < w3.heap.size := Nat.lt_of_lt_of_le z0_w2 hqw3.size
            have z1_w3 : w0.heap.size < w3.heap.size := Nat.lt_of_lt_of_le z1_w2 hqw3.size
            have B_w3 := bt B_w2 hqw3
            clear I_w2 N_w2 z0_w2 z1_w2 B_w2 hqw3
            clear J0 J1 J2 J3 J4 J5
            go_wp2_with fail
            go_ret
            exact ⟨by rw [← hr.out]; rfl, B_w3⟩
  | some b =>
    rw [show wayV s (some b) = pwI b (s.way b) (s.info b).age from rfl]
    have hti : T = ⟨(s.way b).r, (s.way b).c, s.id, p⟩ := by rw [← hT]; unfold S.tells; rw [hrt]
    obtain ⟨hg0, hg1⟩ := hage.out b hrt
    have hme := meth_port (pw b (s.way b) (s.info b).age)
    have htd := Lib.hid fun W => told_port b (s.way b) (s.info b).age s.id p W hg0 hg1
    rw [← hti] at htd
    have hpo := Lib.hid fun W => port_of_port b (s.way b) (s.info b).age W
    clear hg0 hg1
    have hn0 : s.root = some p ↔ (p : Int) = b := by rw [hrt]; (simp) <;> omega
    obtain ⟨n, hn⟩ : ∃ n : Int, (b : Int) = n := ⟨_, rfl⟩
    rw [hn] at hn0 hpo htd hme ⊢
    replace hn := Lib.hid hn
    obtain ⟨ag, hag⟩ : ∃ a : Int, (s.info b).age + 1 = a := ⟨_, rfl⟩
    rw [hag] at htd
    rw [hrt] at hn0 hr
    replace hag := Lib.hid hag
    generalize s.way b = vb at *
    generalize (s.info b).age = ab at *
    have hrt' := Lib.hid hrt
    clear hrt hti hT hage
    go_enter Try.func68, Try.ntmps68
    go_upto_region 1 with fail
    rw [← hw0]
    clear hw0
    have o_I_0 := I.out.c (i := 0) rfl
    have o_I_1 := I.out.c (i := 1) rfl
    have o_I_2 := I.out.c (i := 2) rfl
    have o_I_3 := I.out.c (i := 3) rfl
    go_upto_region 2 with fail
    clear o_I_0 o_I_1 o_I_2 o_I_3
    obtain ⟨w1, hw1⟩ : ∃ W, W = w0.alloc (.cells #[.bool x.has, .int .i64 x.v.r, .int .i64 x.v.c, .int .i64 x.v.b, .int .i64 x.v.p, .int .i64 x.age] 66) := ⟨_, rfl⟩
    have bw1 : Below w0.heap.size w0 w1 := by rw [hw1]; exact (Below.refl _ _).alloc (Nat.le_refl _) _
    have Xw1 : Bx w1 w0.heap.size 66 #[.bool x.has, .int .i64 x.v.r, .int .i64 x.v.c, .int .i64 x.v.b, .int .i64 x.v.p, .int .i64 x.age] := by rw [hw1]; exact Bx.new _ _ _ rfl
    rw [← hw1]
    clear hw1
    have I_w1 := Lib.hid (I.out.below bw1)
    have N_w1 := Lib.hid (Xw1)
    have z0_w1 : w.heap.size < w1.heap.size := Nat.lt_of_lt_of_le hz0 bw1.size
    have B_w1 := bt B0 bw1
    clear I hz0 B0 bw1
    have z1_w1 : w0.heap.size < w1.heap.size := Xw1.lt
    clear Xw1
    obtain ⟨bU, oU, rfl, hbU, qU⟩ := BoolP.SlB.at_ I_w1.out.r.ups.sl (up_at (s := s) (p := p) hpu)
    rw [hup.out] at qU
    clear q0 q1 q2 q3 q4 q5 hbI
    have o_I_0 := I_w1.out.c (i := 0) rfl
    have o_I_1 := I_w1.out.c (i := 1) rfl
    have o_I_2 := I_w1.out.c (i := 2) rfl
    have o_I_3 := I_w1.out.c (i := 3) rfl
    cases up with
    | false =>
      replace hr := Lib.hid hr
      go_wp2_with fail
      go_ret
      exact ⟨by rw [← hr.out]; rfl, B_w1⟩
    | true =>
      simp only [Bool.true_eq_false, if_false] at hr
      by_cases hc : (p : Int) = n
      · rw [if_pos (by have := hn0.2 hc; first | exact this | simpa using this)] at hr
        have hc' : ((p : Int) == n) = true := by simpa using hc
        replace hc := Lib.hid hc
        replace hr := Lib.hid hr
        replace hn0 := Lib.hid hn0
        go_wp2_with fail
        clear o_I_0 o_I_1 o_I_2 o_I_3
        clear qU hbU
        go_at_call 59
        (with_reducible refine (hpo.out _).mono ?_)
        rintro e w2 ⟨rfl, hb2⟩
        have I_w2 := Lib.hid (I_w1.out.below hb2)
        have N_w2 := Lib.hid (N_w1.out.below hb2)
        have z0_w2 : w.heap.size < w2.heap.size := Nat.lt_of_lt_of_le z0_w1 hb2.size
        have z1_w2 : w0.heap.size < w2.heap.size := Nat.lt_of_lt_of_le z1_w1 hb2.size
        have B_w2 := bt B_w1 hb2
        clear I_w1 N_w1 z0_w1 z1_w1 B_w1 hb2
        go_wp2_with fail
        go_ret
        exact ⟨by rw [← hr.out]; rfl, B_w2⟩
      · rw [if_neg (fun h => hc (hn0.1 (by first | exact h | simpa using h)))] at hr
        have hc' : ((p : Int) == n) = false := by simpa using hc
        replace hc := Lib.hid hc
        replace hr := Lib.hid hr
        replace hn0 := Lib.hid hn0
        have hfd := fieldC T ag
        go_wp2_with fail
        clear o_I_0 o_I_1 o_I_2 o_I_3
        clear qU hbU
        go_at_call 59
        (with_reducible refine (hpo.out _).mono ?_)
        rintro e w2 ⟨rfl, hb2⟩
        have I_w2 := Lib.hid (I_w1.out.below hb2)
        have N_w2 := Lib.hid (N_w1.out.below hb2)
        have z0_w2 : w.heap.size < w2.heap.size := Nat.lt_of_lt_of_le z0_w1 hb2.size
        have z1_w2 : w0.heap.size < w2.heap.size := Nat.lt_of_lt_of_le z1_w1 hb2.size
        have B_w2 := bt B_w1 hb2
        clear I_w1 N_w1 z0_w1 z1_w1 B_w1 hb2
        go_upto_region 6 with fail
        obtain ⟨hs, hhs⟩ : ∃ h, x.has = h := ⟨_, rfl⟩
        obtain ⟨β, hβ⟩ : ∃ β, x.v.bet T = β := ⟨_, rfl⟩
        rw [hhs, hβ] at hr
        cases hs with
        | false =>
          replace hβ := Lib.hid hβ
          have J0 := cell_regrown (N_w2.out.c (i := 0) rfl)
          rw [hhs] at J0
          clear hhs
          refine wp_region_quiet_below (by kernel_rfl) (by kernel_rfl) ?_
          repeat (first | go_big_quiet_step (fail) | quiet_step (fail))
          refine wpQuiet_nil ?_
          intro _ hw'
          obtain ⟨⟨dq, osq⟩, hw''⟩ := hw'
          subst hw''
          have hqw3 := below_regrown w2 dq osq
          generalize Go.Sort.grow (redrawn w2 dq) osq = w3 at *
          have I_w3 := Lib.hid (I_w2.out.below hqw3)
          have N_w3 := Lib.hid (N_w2.out.below hqw3)
          have z0_w3 : w.heap.size < w3.heap.size := Nat.lt_of_lt_of_le z0_w2 hqw3.size
          have z1_w3 : w0.heap.size < w3.heap.size := Nat.lt_of_lt_of_le z1_w2 hqw3.size
          have B_w3 := bt B_w2 hqw3
          clear I_w2 N_w2 z0_w2 z1_w2 B_w2 hqw3
          clear J0
          go_wp2_with fail
          go_ret
          exact ⟨by rw [← hr.out]; rfl, B_w3⟩
        | true =>
          have hvb := Lib.hid fun W => vb_to x.v T β ((hvi.out hhs).2) hvt.out hβ W
          replace hβ := Lib.hid hβ
          have J0 := cell_regrown (N_w2.out.c (i := 0) rfl)
          rw [hhs] at J0
          clear hhs
          have J1 := cell_regrown (N_w2.out.c (i := 1) rfl)
          have J2 := cell_regrown (N_w2.out.c (i := 2) rfl)
          have J3 := cell_regrown (N_w2.out.c (i := 3) rfl)
          have J4 := cell_regrown (N_w2.out.c (i := 4) rfl)
          have J5 := cell_regrown (N_w2.out.c (i := 5) rfl)
          cases β
          all_goals
            have K_I_0 := cell_regrown (I_w2.out.c (i := 0) rfl)
            have K_I_1 := cell_regrown (I_w2.out.c (i := 1) rfl)
            have K_I_2 := cell_regrown (I_w2.out.c (i := 2) rfl)
            have K_I_3 := cell_regrown (I_w2.out.c (i := 3) rfl)
            have cC0 := fun (d : Nat) (os : Array Obj) => Calls.regrown_of (htd.out (Go.Sort.grow (redrawn w2 d) os))
            have cC1 := fun (d : Nat) (os : Array Obj) => Calls.regrown_of (hvb.out (Go.Sort.grow (redrawn w2 d) os))
            refine wp_region_quiet_below (by kernel_rfl) (by kernel_rfl) ?_
            repeat (first | go_big_quiet_step (first | with_reducible exact cC0 _ _ | with_reducible exact cC1 _ _) | quiet_step (first | with_reducible exact cC0 _ _ | with_reducible exact cC1 _ _))
            refine wpQuiet_nil ?_
            intro _ hw'
            obtain ⟨⟨dq, osq⟩, hw''⟩ := hw'
            subst hw''
            have hqw3 := below_regrown w2 dq osq
            clear K_I_0 K_I_1 K_I_2 K_I_3 cC0 cC1
            generalize Go.Sort.grow (redrawn w2 dq) osq = w3 at *
            have I_w3 := Lib.hid (I_w2.out.below hqw3)
            have N_w3 := Lib.hid (N_w2.out.below hqw3)
            have z0_w3 : w.heap.size < w3.heap.size := Nat.lt_of_lt_of_le z0_w2 hqw3.size
            have z1_w3 : w0.heap.size < w3.heap.size := Nat.lt_of_lt_of_le z1_w2 hqw3.size
            have B_w3 := bt B_w2 hqw3
            clear I_w2 N_w2 z0_w2 z1_w2 B_w2 hqw3
            clear J0 J1 J2 J3 J4 J5
            go_wp2_with fail
            go_ret
            exact ⟨by rw [← hr.out]; rfl, B_w3⟩
end Go.Proofs.Ytidoaccidmmalaa.RoleP
