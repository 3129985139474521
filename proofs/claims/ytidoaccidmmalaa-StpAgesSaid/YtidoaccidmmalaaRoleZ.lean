/-
  Contracts of footwayref11: Role, Roles, Tell.
-/
import Derived.Test.YtidoaccidmmalaaRoleY
import Derived.Deep.Cut
namespace Go.Proofs.Ytidoaccidmmalaa.RoleP
open Go.RowKit Go.Sort Go.Proofs.Ytidoaccidmmalaa.SliceP Go.Proofs.Ytidoaccidmmalaa.BoxP Go.Proofs.Ytidoaccidmmalaa.VecP
open Go.Proofs.Ytidoaccidmmalaa.IntP (RowI SlI OwnI)
open Go.Proofs.Ytidoaccidmmalaa.BoolP (RowB SlB)
set_option linter.unusedVariables false
set_option maxRecDepth 100000
theorem tells_to {s : S} {AC : Option Addr} {cC : Nat} {AU : Option Addr} {cU : Nat} {AI : Option Addr} {cI : Nat} {w : World} (hF : Fit s) (hS : SelfR w s AC cC AU cU AI cI) {p : Int} {v : V} (e : s.tells p = v) : Calls Try.prog 71 #[selfV s.id (.slice AC s.costs.length cC) (.slice AU s.ups.length cU) (.slice AI s.infos.length cI), .int .i64 p] w fun e w' => e = .returned (vg v) ∧ Below w.heap.size w w' := by
  subst e; exact r_tells hF hS p
set_option maxHeartbeats 16000000 in
theorem r_role {s : S} {AC : Option Addr} {cC : Nat} {AU : Option Addr} {cU : Nat} {AI : Option Addr} {cI : Nat} {w : World} (hF : Fit s) (hS : SelfR w s AC cC AU cU AI cI) {p : Nat} (hp : p < s.costs.length) :
    Calls Try.prog 42 #[selfV s.id (.slice AC s.costs.length cC) (.slice AU s.ups.length cU) (.slice AI s.infos.length cI), .int .i64 p] w fun e w' => e = .returned (.int .i64 (s.role p)) ∧ Below w.heap.size w w' := by
  obtain ⟨w0, hw0⟩ : ∃ W, W = w.alloc (.cells #[.int .i64 s.id, .slice AC s.costs.length cC, .slice AU s.ups.length cU, .slice AI s.infos.length cI] 26) := ⟨_, rfl⟩
  have I := Lib.hid (show InS w w0 s AC cC AU cU AI cI by rw [hw0]; exact .new hS)
  have hz0 := I.out.x.lt
  have B0 := I.out.b
  obtain ⟨⟨l1, l2⟩, l3, l4⟩ := hF.len
  have hpu : p < s.ups.length := by omega
  have hpi : p < s.infos.length := by omega
  obtain ⟨bU, oU, rfl, hbU, qU⟩ := BoolP.SlB.at_ I.out.r.ups.sl (up_at (s := s) (p := p) hpu)
  obtain ⟨bI, oI, rfl, hbI, q0, q1, q2, q3, q4, q5⟩ := SlN.at_ I.out.r.infos.sl (info_at (s := s) (p := p) hpi)
  obtain ⟨r, hr⟩ : ∃ r, s.role p = r := ⟨_, rfl⟩
  rw [hr]
  unfold S.role at hr
  have hm3 : s.ups.length ≤ 8 := by omega
  have hm4 : s.infos.length ≤ 8 := by omega
  replace hF := Lib.hid hF
  clear hS l1 l2 l3 l4
  cases hup : s.up p with
  | false =>
    rw [hup] at qU hr
    simp only [if_true] at hr
    replace hr := Lib.hid hr
    clear q0 q1 q2 q3 q4 q5 hbI hup
    go_enter Try.func42, Try.ntmps42
    go_upto_region 1 with fail
    rw [← hw0]
    clear hw0
    have o_I_0 := I.out.c (i := 0) rfl
    have o_I_1 := I.out.c (i := 1) rfl
    have o_I_2 := I.out.c (i := 2) rfl
    have o_I_3 := I.out.c (i := 3) rfl
    go_wp2_with fail
    go_ret
    exact ⟨by rw [← hr.out]; rfl, I.out.b⟩
  | true =>
    rw [hup] at qU hr
    simp only [Bool.true_eq_false, if_false] at hr
    clear hup
    obtain ⟨n, hn⟩ : ∃ n, s.rootI = n := ⟨_, rfl⟩
    have hnp : s.root = some p ↔ (p : Int) = n := by
      rw [← hn]; unfold S.rootI
      cases h : s.root with
      | none => (simp [optI]) <;> omega
      | some b => (simp [optI]) <;> omega
    replace hn := Lib.hid hn
    by_cases hc : (p : Int) = n
    · rw [if_pos (hnp.2 hc)] at hr
      have hc' : ((p : Int) == n) = true := by simpa using hc
      replace hc := Lib.hid hc
      replace hr := Lib.hid hr
      clear q0 q1 q2 q3 q4 q5 hbI hnp
      go_enter Try.func42, Try.ntmps42
      go_upto_region 1 with fail
      rw [← hw0]
      clear hw0
      have o_I_0 := I.out.c (i := 0) rfl
      have o_I_1 := I.out.c (i := 1) rfl
      have o_I_2 := I.out.c (i := 2) rfl
      have o_I_3 := I.out.c (i := 3) rfl
      go_wp2_with fail
      clear o_I_0 o_I_1 o_I_2 o_I_3
      go_at_call 70
      (with_reducible refine (root_to hF.out I.out.r hn.out).mono ?_)
      rintro e w2 ⟨rfl, hb2⟩
      have I_w2 := Lib.hid (I.out.below hb2)
      have z0_w2 : w.heap.size < w2.heap.size := Nat.lt_of_lt_of_le hz0 hb2.size
      have B_w2 := bt B0 hb2
      clear I hz0 B0 hb2
      have o_I_0 := I_w2.out.c (i := 0) rfl
      have o_I_1 := I_w2.out.c (i := 1) rfl
      have o_I_2 := I_w2.out.c (i := 2) rfl
      have o_I_3 := I_w2.out.c (i := 3) rfl
      go_wp2_with fail
      go_ret
      exact ⟨by rw [← hr.out]; rfl, B_w2⟩
    · rw [if_neg (fun h => hc (hnp.1 h))] at hr
      have hc' : ((p : Int) == n) = false := by simpa using hc
      replace hc := Lib.hid hc
      obtain ⟨x, hx⟩ : ∃ x, s.info p = x := ⟨_, rfl⟩
      rw [hx] at q0 q1 q2 q3 q4 q5 hr
      obtain ⟨v, hv⟩ : ∃ v, s.tells p = v := ⟨_, rfl⟩
      rw [hv] at hr
      obtain ⟨β, hβ⟩ : ∃ β, x.v.bet v = β := ⟨_, rfl⟩
      rw [hβ] at hr
      replace hβ := Lib.hid hβ
      replace hv := Lib.hid hv
      replace hx := Lib.hid hx
      clear hnp
      go_enter Try.func42, Try.ntmps42
      go_upto_region 1 with fail
      rw [← hw0]
      clear hw0
      have o_I_0 := I.out.c (i := 0) rfl
      have o_I_1 := I.out.c (i := 1) rfl
      have o_I_2 := I.out.c (i := 2) rfl
      have o_I_3 := I.out.c (i := 3) rfl
      go_wp2_with fail
      clear o_I_0 o_I_1 o_I_2 o_I_3
      go_at_call 70
      (with_reducible refine (root_to hF.out I.out.r hn.out).mono ?_)
      rintro e w2 ⟨rfl, hb2⟩
      have I_w2 := Lib.hid (I.out.below hb2)
      have z0_w2 : w.heap.size < w2.heap.size := Nat.lt_of_lt_of_le hz0 hb2.size
      have B_w2 := bt B0 hb2
      clear I hz0 B0 hb2
      have o_I_0 := I_w2.out.c (i := 0) rfl
      have o_I_1 := I_w2.out.c (i := 1) rfl
      have o_I_2 := I_w2.out.c (i := 2) rfl
      have o_I_3 := I_w2.out.c (i := 3) rfl
      go_wp2_with fail
      clear o_I_0 o_I_1 o_I_2 o_I_3
      obtain ⟨_, _, e9, hbI', p0, p1, p2, p3, p4, p5⟩ := SlN.at_ I_w2.out.r.infos.sl (info_at (s := s) (p := p) hpi)
      injection e9 with e9
      injection e9 with e9 e10
      subst e9; subst e10
      rw [hx.out] at p0 p1 p2 p3 p4 p5
      clear q0 q1 q2 q3 q4 q5 qU
      have K0 := cell_regrown (I_w2.out.c (i := 0) rfl)
      have K1 := cell_regrown (I_w2.out.c (i := 1) rfl)
      have K2 := cell_regrown (I_w2.out.c (i := 2) rfl)
      have K3 := cell_regrown (I_w2.out.c (i := 3) rfl)
      have J0 := cell_regrown p0
      have J1 := cell_regrown p1
      have J2 := cell_regrown p2
      have J3 := cell_regrown p3
      have J4 := cell_regrown p4
      have J5 := cell_regrown p5
      have cC0 := fun (d : Nat) (os : Array Obj) => Calls.regrown_of (tells_to (w := Go.Sort.grow (redrawn w2 d) os) hF.out (I_w2.out.r.below (below_regrown w2 d os)) hv.out)
      have cC1 := fun (d : Nat) (os : Array Obj) => Calls.regrown_of (ref_bet x.v v β hβ.out (Go.Sort.grow (redrawn w2 d) os))
      clear p0 p1 p2 p3 p4 p5
      cases hh : x.has <;> cases β
      all_goals
        rw [hh] at hr J0
        replace hr := Lib.hid hr
        refine wp_region_quiet_below (by kernel_rfl) (by kernel_rfl) ?_
        repeat (first | go_big_quiet_step (first | with_reducible exact cC0 _ _ | with_reducible exact cC1 _ _) | quiet_step (first | with_reducible exact cC0 _ _ | with_reducible exact cC1 _ _))
        refine wpQuiet_nil ?_
        intro _ hw'
        obtain ⟨⟨dq, osq⟩, hw''⟩ := hw'
        subst hw''
        have bq := below_regrown w2 dq osq
        clear K0 K1 K2 K3 J0 J1 J2 J3 J4 J5 cC0 cC1
        generalize Go.Sort.grow (redrawn w2 dq) osq = W1 at *
        go_wp2_with fail
        go_ret
        exact ⟨by rw [← hr.out]; rfl, bt B_w2 bq⟩
end Go.Proofs.Ytidoaccidmmalaa.RoleP
