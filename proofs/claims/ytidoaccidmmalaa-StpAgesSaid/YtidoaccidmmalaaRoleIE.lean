/-
  Contracts of role.Root and Tell.
-/
import Derived.Test.YtidoaccidmmalaaRoleIB
import Derived.Test.YtidoaccidmmalaaRoleID
namespace Go.Proofs.Ytidoaccidmmalaa.RoleP
open Go.Proofs.Ytidoaccidmmalaa.MacP (arr_out Wrote)
open Go.RowKit Go.Sort Go.Proofs.Ytidoaccidmmalaa.SliceP Go.Proofs.Ytidoaccidmmalaa.BoxP Go.Proofs.Ytidoaccidmmalaa.VecP
open Go.Proofs.Ytidoaccidmmalaa.IntP (RowI SlI OwnI)
open Go.Proofs.Ytidoaccidmmalaa.BoolP (RowB SlB)
set_option linter.unusedVariables false
set_option maxRecDepth 100000
theorem o_right_to {s : S} {AC : Option Addr} {cC : Nat} {AU : Option Addr} {cU : Nat} {AI : Option Addr} {cI : Nat} {w : World} {b : Bool} (h : s.ok = b) (hl : s.costs.length ≤ 1000 ∧ s.ups.length ≤ 1000 ∧ s.infos.length ≤ 1000) (hS : SelfR w s AC cC AU cU AI cI) : Calls Try.prog 28 #[selfV s.id (.slice AC s.costs.length cC) (.slice AU s.ups.length cU) (.slice AI s.infos.length cI)] w fun e w' => e = .returned (.bool b) ∧ Below w.heap.size w w' := by
  have := o_right hS hl
  rwa [h] at this
theorem o_role_to {s : S} {AC : Option Addr} {cC : Nat} {AU : Option Addr} {cU : Nat} {AI : Option Addr} {cI : Nat} {w : World} (hF : Fit s) (hS : SelfR w s AC cC AU cU AI cI) {p : Nat} (hp : p < s.costs.length) {R : Value} (hR : wayV s s.root = R) {r : Int} (hr : s.role p = r) : Calls Try.prog 68 #[selfV s.id (.slice AC s.costs.length cC) (.slice AU s.ups.length cU) (.slice AI s.infos.length cI), R, .int .i64 p] w fun e w' => e = .returned (.int .i64 r) ∧ Below w.heap.size w w' := by
  have := o_role hF hS hp
  rwa [hR, hr] at this
theorem o_rw_to {s : S} {AC : Option Addr} {cC : Nat} {AU : Option Addr} {cU : Nat} {AI : Option Addr} {cI : Nat} {w : World} (hF : Fit s) (hS : SelfR w s AC cC AU cU AI cI) {R : Value} (hR : wayV s s.root = R) : Calls Try.prog 58 #[selfV s.id (.slice AC s.costs.length cC) (.slice AU s.ups.length cU) (.slice AI s.infos.length cI)] w fun e w' => e = .returned R ∧ Below w.heap.size w w' := by
  have := o_root_way hF hS
  rwa [hR] at this
set_option maxHeartbeats 8000000 in
theorem o_root_no {s : S} {AC : Option Addr} {cC : Nat} {AU : Option Addr} {cU : Nat} {AI : Option Addr} {cI : Nat} {w : World} (hok : s.ok = false) (hl : s.costs.length ≤ 1000 ∧ s.ups.length ≤ 1000 ∧ s.infos.length ≤ 1000) (hS : SelfR w s AC cC AU cU AI cI) : Calls Try.prog 24 #[selfV s.id (.slice AC s.costs.length cC) (.slice AU s.ups.length cU) (.slice AI s.infos.length cI)] w fun e w' => e = .returned (.tuple #[vg V0, .int .i64 0, .int .i64 1]) ∧ Below w.heap.size w w' := by
  obtain ⟨w0, hw0⟩ : ∃ W, W = (w.alloc (.cells #[.int .i64 s.id, .slice AC s.costs.length cC, .slice AU s.ups.length cU, .slice AI s.infos.length cI] 26)).alloc (.cells #[.int .i64 0, .int .i64 0, .int .i64 0, .int .i64 0] 31) := ⟨_, rfl⟩
  have I := Lib.hid (show InS w w0 s AC cC AU cU AI cI by rw [hw0]; exact (InS.new hS).below ((Below.refl _ _).alloc (Nat.le_refl _) _))
  have X := Lib.hid (show Bx w0 (w.heap.size + 1) 31 #[.int .i64 0, .int .i64 0, .int .i64 0, .int .i64 0] by rw [hw0]; exact Bx.new _ _ _ (by simp))
  have hz0 := I.out.x.lt
  have B0 := I.out.b
  clear hS
  replace hok := Lib.hid hok
  replace hl := Lib.hid hl
  go_enter Try.func24, Try.ntmps24
  go_wp2_with fail
  rw [← hw0]
  clear hw0
  go_at_call 28
  (with_reducible refine (o_right_to hok.out hl.out I.out.r).mono ?_)
  rintro e w1 ⟨rfl, hb1⟩
  have I_w1 := Lib.hid (I.out.below hb1)
  have X_w1 := Lib.hid (X.out.below hb1)
  have z0_w1 : w.heap.size < w1.heap.size := Nat.lt_of_lt_of_le hz0 hb1.size
  have B_w1 := bt B0 hb1
  clear I X hz0 B0 hb1
  have o_X_0 := X_w1.out.c (i := 0) rfl
  have o_X_1 := X_w1.out.c (i := 1) rfl
  have o_X_2 := X_w1.out.c (i := 2) rfl
  have o_X_3 := X_w1.out.c (i := 3) rfl
  have p_X_0 := X_w1.out.f 0
  have p_X_1 := X_w1.out.f 1
  have p_X_2 := X_w1.out.f 2
  have p_X_3 := X_w1.out.f 3
  have hzx := X_w1.out.lt
  go_wp2_with fail
  refine bodyPost_ret (v := .tuple #[vg V0, .int .i64 0, .int .i64 1]) (by simp [results, Try.results24, go_sem, o_X_0, o_X_1, o_X_2, o_X_3]) rfl ⟨rfl, ?_⟩
  exact below4 B_w1 (by omega) _ _ _ _
set_option maxHeartbeats 8000000 in
theorem o_root_ok {s : S} {AC : Option Addr} {cC : Nat} {AU : Option Addr} {cU : Nat} {AI : Option Addr} {cI : Nat} {w : World} (hok : s.ok = true) (hl : s.costs.length ≤ 1000 ∧ s.ups.length ≤ 1000 ∧ s.infos.length ≤ 1000) (hS : SelfR w s AC cC AU cU AI cI) : Calls Try.prog 24 #[selfV s.id (.slice AC s.costs.length cC) (.slice AU s.ups.length cU) (.slice AI s.infos.length cI)] w fun e w' => e = .returned (.tuple #[vg (s.tells 0), .int .i64 s.rootI, .int .i64 0]) ∧ Below w.heap.size w w' := by
  obtain ⟨w0, hw0⟩ : ∃ W, W = (w.alloc (.cells #[.int .i64 s.id, .slice AC s.costs.length cC, .slice AU s.ups.length cU, .slice AI s.infos.length cI] 26)).alloc (.cells #[.int .i64 0, .int .i64 0, .int .i64 0, .int .i64 0] 31) := ⟨_, rfl⟩
  have I := Lib.hid (show InS w w0 s AC cC AU cU AI cI by rw [hw0]; exact (InS.new hS).below ((Below.refl _ _).alloc (Nat.le_refl _) _))
  have X := Lib.hid (show Bx w0 (w.heap.size + 1) 31 #[.int .i64 0, .int .i64 0, .int .i64 0, .int .i64 0] by rw [hw0]; exact Bx.new _ _ _ (by simp))
  have hz0 := I.out.x.lt
  have B0 := I.out.b
  clear hS
  have hF := Lib.hid (Fit.mk hok)
  have hage := Lib.hid (show ∀ b, s.root = some b → 0 ≤ (s.info b).age ∧ (s.info b).age ≤ 255 from fun b h => (ok_info hok (by have := (root_lt h).1; have := (Fit.mk hok).len; omega)).1)
  obtain ⟨T, hT⟩ : ∃ v, s.tells 0 = v := ⟨_, rfl⟩
  rw [hT]
  replace hok := Lib.hid hok
  replace hl := Lib.hid hl
  cases hrt : s.root with
  | none =>
    have hR := Lib.hid (show wayV s s.root = noI by rw [hrt]; rfl)
    have hti : T = ⟨s.id, 0, s.id, 0⟩ := by rw [← hT]; unfold S.tells; rw [hrt]
    have hme := meth_none (.agg #[])
    have hpo := Lib.hid port_of_none
    obtain ⟨n, hn⟩ : ∃ n : Int, -1 = n := ⟨_, rfl⟩
    have hrn := Lib.hid (show s.rootI = n by unfold S.rootI; rw [hrt]; exact hn)
    rw [hn] at hpo
    replace hn := Lib.hid hn
    obtain ⟨ag, hag⟩ : ∃ a : Int, 0 = a := ⟨_, rfl⟩
    have hra := Lib.hid (show s.age = ag by unfold S.age; rw [hrt]; exact hag)
    have htd := Lib.hid (show ∀ W, Calls Try.prog 101 #[.agg #[], .int .i64 s.id, .int .i64 0] W fun e w' => e = .returned (cg T ag) ∧ Below W.heap.size W w' from fun W => by rw [hti, ← hag]; exact told_none s.id 0 W)
    replace hag := Lib.hid hag
    have hfd := fieldC T ag
    have hrt' := Lib.hid hrt
    replace hT := Lib.hid hT
    clear hrt hti hage
    rw [hrn.out]
    go_enter Try.func24, Try.ntmps24
    go_wp2_with fail
    rw [← hw0]
    clear hw0
    go_at_call 28
    (with_reducible refine (o_right_to hok.out hl.out I.out.r).mono ?_)
    rintro e w1 ⟨rfl, hb1⟩
    have I_w1 := Lib.hid (I.out.below hb1)
    have X_w1 := Lib.hid (X.out.below hb1)
    have z0_w1 : w.heap.size < w1.heap.size := Nat.lt_of_lt_of_le hz0 hb1.size
    have B_w1 := bt B0 hb1
    clear I X hz0 B0 hb1
    have o_I_0 := I_w1.out.c (i := 0) rfl
    have o_I_1 := I_w1.out.c (i := 1) rfl
    have o_I_2 := I_w1.out.c (i := 2) rfl
    have o_I_3 := I_w1.out.c (i := 3) rfl
    go_wp2_with fail
    clear o_I_0 o_I_1 o_I_2 o_I_3
    go_at_call 58
    (with_reducible refine (o_rw_to hF.out I_w1.out.r hR.out).mono ?_)
    rintro e w2 ⟨rfl, hb2⟩
    have I_w2 := Lib.hid (I_w1.out.below hb2)
    have X_w2 := Lib.hid (X_w1.out.below hb2)
    have z0_w2 : w.heap.size < w2.heap.size := Nat.lt_of_lt_of_le z0_w1 hb2.size
    have B_w2 := bt B_w1 hb2
    clear I_w1 X_w1 z0_w1 B_w1 hb2
    have o_I_0 := I_w2.out.c (i := 0) rfl
    have o_I_1 := I_w2.out.c (i := 1) rfl
    have o_I_2 := I_w2.out.c (i := 2) rfl
    have o_I_3 := I_w2.out.c (i := 3) rfl
    go_wp2_with fail
    clear o_I_0 o_I_1 o_I_2 o_I_3
    go_at_call 101
    (with_reducible refine (htd.out _).mono ?_)
    rintro e w3 ⟨rfl, hb3⟩
    have I_w3 := Lib.hid (I_w2.out.below hb3)
    have X_w3 := Lib.hid (X_w2.out.below hb3)
    have z0_w3 : w.heap.size < w3.heap.size := Nat.lt_of_lt_of_le z0_w2 hb3.size
    have B_w3 := bt B_w2 hb3
    clear I_w2 X_w2 z0_w2 B_w2 hb3
    go_wp2_with fail
    go_at_call 59
    (with_reducible refine (hpo.out _).mono ?_)
    rintro e w4 ⟨rfl, hb4⟩
    have I_w4 := Lib.hid (I_w3.out.below hb4)
    have X_w4 := Lib.hid (X_w3.out.below hb4)
    have z0_w4 : w.heap.size < w4.heap.size := Nat.lt_of_lt_of_le z0_w3 hb4.size
    have B_w4 := bt B_w3 hb4
    clear I_w3 X_w3 z0_w3 B_w3 hb4
    have o_X_0 := X_w4.out.c (i := 0) rfl
    have o_X_1 := X_w4.out.c (i := 1) rfl
    have o_X_2 := X_w4.out.c (i := 2) rfl
    have o_X_3 := X_w4.out.c (i := 3) rfl
    have p_X_0 := X_w4.out.f 0
    have p_X_1 := X_w4.out.f 1
    have p_X_2 := X_w4.out.f 2
    have p_X_3 := X_w4.out.f 3
    have hzx := X_w4.out.lt
    go_wp2_with fail
    refine bodyPost_ret (v := .tuple #[vg T, .int .i64 n, .int .i64 0]) (by simp [results, Try.results24, go_sem, o_X_0, o_X_1, o_X_2, o_X_3]) rfl ⟨rfl, ?_⟩
    exact below4 B_w4 (by omega) _ _ _ _
  | some b =>
    have hR := Lib.hid (show wayV s s.root = pwI b (s.way b) (s.info b).age by rw [hrt]; rfl)
    have hti : T = ⟨(s.way b).r, (s.way b).c, s.id, 0⟩ := by rw [← hT]; unfold S.tells; rw [hrt]
    obtain ⟨hg0, hg1⟩ := hage.out b hrt
    have hme := meth_port (pw b (s.way b) (s.info b).age)
    have htd := Lib.hid fun W => told_port b (s.way b) (s.info b).age s.id 0 W hg0 hg1
    rw [← hti] at htd
    have hpo := Lib.hid fun W => port_of_port b (s.way b) (s.info b).age W
    clear hg0 hg1
    obtain ⟨n, hn⟩ : ∃ n : Int, (b : Int) = n := ⟨_, rfl⟩
    have hrn := Lib.hid (show s.rootI = n by unfold S.rootI; rw [hrt]; exact hn)
    rw [hn] at hpo htd hme hR
    replace hn := Lib.hid hn
    obtain ⟨ag, hag⟩ : ∃ a : Int, (s.info b).age + 1 = a := ⟨_, rfl⟩
    have hra := Lib.hid (show s.age = ag by unfold S.age; rw [hrt]; exact hag)
    rw [hag] at htd
    replace hag := Lib.hid hag
    generalize s.way b = vb at *
    generalize (s.info b).age = ab at *
    have hfd := fieldC T ag
    have hrt' := Lib.hid hrt
    replace hT := Lib.hid hT
    clear hrt hti hage
    rw [hrn.out]
    go_enter Try.func24, Try.ntmps24
    go_wp2_with fail
    rw [← hw0]
    clear hw0
    go_at_call 28
    (with_reducible refine (o_right_to hok.out hl.out I.out.r).mono ?_)
    rintro e w1 ⟨rfl, hb1⟩
    have I_w1 := Lib.hid (I.out.below hb1)
    have X_w1 := Lib.hid (X.out.below hb1)
    have z0_w1 : w.heap.size < w1.heap.size := Nat.lt_of_lt_of_le hz0 hb1.size
    have B_w1 := bt B0 hb1
    clear I X hz0 B0 hb1
    have o_I_0 := I_w1.out.c (i := 0) rfl
    have o_I_1 := I_w1.out.c (i := 1) rfl
    have o_I_2 := I_w1.out.c (i := 2) rfl
    have o_I_3 := I_w1.out.c (i := 3) rfl
    go_wp2_with fail
    clear o_I_0 o_I_1 o_I_2 o_I_3
    go_at_call 58
    (with_reducible refine (o_rw_to hF.out I_w1.out.r hR.out).mono ?_)
    rintro e w2 ⟨rfl, hb2⟩
    have I_w2 := Lib.hid (I_w1.out.below hb2)
    have X_w2 := Lib.hid (X_w1.out.below hb2)
    have z0_w2 : w.heap.size < w2.heap.size := Nat.lt_of_lt_of_le z0_w1 hb2.size
    have B_w2 := bt B_w1 hb2
    clear I_w1 X_w1 z0_w1 B_w1 hb2
    have o_I_0 := I_w2.out.c (i := 0) rfl
    have o_I_1 := I_w2.out.c (i := 1) rfl
    have o_I_2 := I_w2.out.c (i := 2) rfl
    have o_I_3 := I_w2.out.c (i := 3) rfl
    go_wp2_with fail
    clear o_I_0 o_I_1 o_I_2 o_I_3
    go_at_call 102
    (with_reducible refine (htd.out _).mono ?_)
    rintro e w3 ⟨rfl, hb3⟩
    have I_w3 := Lib.hid (I_w2.out.below hb3)
    have X_w3 := Lib.hid (X_w2.out.below hb3)
    have z0_w3 : w.heap.size < w3.heap.size := Nat.lt_of_lt_of_le z0_w2 hb3.size
    have B_w3 := bt B_w2 hb3
    clear I_w2 X_w2 z0_w2 B_w2 hb3
    go_wp2_with fail
    go_at_call 59
    (with_reducible refine (hpo.out _).mono ?_)
    rintro e w4 ⟨rfl, hb4⟩
    have I_w4 := Lib.hid (I_w3.out.below hb4)
    have X_w4 := Lib.hid (X_w3.out.below hb4)
    have z0_w4 : w.heap.size < w4.heap.size := Nat.lt_of_lt_of_le z0_w3 hb4.size
    have B_w4 := bt B_w3 hb4
    clear I_w3 X_w3 z0_w3 B_w3 hb4
    have o_X_0 := X_w4.out.c (i := 0) rfl
    have o_X_1 := X_w4.out.c (i := 1) rfl
    have o_X_2 := X_w4.out.c (i := 2) rfl
    have o_X_3 := X_w4.out.c (i := 3) rfl
    have p_X_0 := X_w4.out.f 0
    have p_X_1 := X_w4.out.f 1
    have p_X_2 := X_w4.out.f 2
    have p_X_3 := X_w4.out.f 3
    have hzx := X_w4.out.lt
    go_wp2_with fail
    refine bodyPost_ret (v := .tuple #[vg T, .int .i64 n, .int .i64 0]) (by simp [results, Try.results24, go_sem, o_X_0, o_X_1, o_X_2, o_X_3]) rfl ⟨rfl, ?_⟩
    exact below4 B_w4 (by omega) _ _ _ _
set_option maxHeartbeats 8000000 in
theorem o_tell_no {s : S} {AC : Option Addr} {cC : Nat} {AU : Option Addr} {cU : Nat} {AI : Option Addr} {cI : Nat} {w : World} {p : Int} {most : Int} (hok : s.ok = false) (hl : s.costs.length ≤ 1000 ∧ s.ups.length ≤ 1000 ∧ s.infos.length ≤ 1000) (hS : SelfR w s AC cC AU cU AI cI) : Calls Try.prog 73 #[selfV s.id (.slice AC s.costs.length cC) (.slice AU s.ups.length cU) (.slice AI s.infos.length cI), .int .i64 p, .int .i64 most] w fun e w' => e = .returned (.tuple #[cg V0 0, .bool false, .int .i64 1]) ∧ Below w.heap.size w w' := by
  obtain ⟨w0, hw0⟩ : ∃ W, W = (w.alloc (.cells #[.int .i64 s.id, .slice AC s.costs.length cC, .slice AU s.ups.length cU, .slice AI s.infos.length cI] 26)).alloc (.cells #[.int .i64 0, .int .i64 0, .int .i64 0, .int .i64 0, .int .i64 0] 33) := ⟨_, rfl⟩
  have I := Lib.hid (show InS w w0 s AC cC AU cU AI cI by rw [hw0]; exact (InS.new hS).below ((Below.refl _ _).alloc (Nat.le_refl _) _))
  have X := Lib.hid (show Bx w0 (w.heap.size + 1) 33 #[.int .i64 0, .int .i64 0, .int .i64 0, .int .i64 0, .int .i64 0] by rw [hw0]; exact Bx.new _ _ _ (by simp))
  have hz0 := I.out.x.lt
  have B0 := I.out.b
  clear hS
  replace hok := Lib.hid hok
  replace hl := Lib.hid hl
  go_enter Try.func73, Try.ntmps73
  go_wp2_with fail
  rw [← hw0]
  clear hw0
  go_at_call 28
  (with_reducible refine (o_right_to hok.out hl.out I.out.r).mono ?_)
  rintro e w1 ⟨rfl, hb1⟩
  have I_w1 := Lib.hid (I.out.below hb1)
  have X_w1 := Lib.hid (X.out.below hb1)
  have z0_w1 : w.heap.size < w1.heap.size := Nat.lt_of_lt_of_le hz0 hb1.size
  have B_w1 := bt B0 hb1
  clear I X hz0 B0 hb1
  have o_X_0 := X_w1.out.c (i := 0) rfl
  have o_X_1 := X_w1.out.c (i := 1) rfl
  have o_X_2 := X_w1.out.c (i := 2) rfl
  have o_X_3 := X_w1.out.c (i := 3) rfl
  have o_X_4 := X_w1.out.c (i := 4) rfl
  have p_X_0 := X_w1.out.f 0
  have p_X_1 := X_w1.out.f 1
  have p_X_2 := X_w1.out.f 2
  have p_X_3 := X_w1.out.f 3
  have p_X_4 := X_w1.out.f 4
  have hzx := X_w1.out.lt
  go_wp2_with fail
  refine bodyPost_ret (v := .tuple #[cg V0 0, .bool false, .int .i64 1]) (by simp [results, Try.results73, go_sem, o_X_0, o_X_1, o_X_2, o_X_3, o_X_4]) rfl ⟨rfl, ?_⟩
  exact below5 B_w1 (by omega) _ _ _ _ _
set_option maxHeartbeats 8000000 in
theorem o_tell_range {s : S} {AC : Option Addr} {cC : Nat} {AU : Option Addr} {cU : Nat} {AI : Option Addr} {cI : Nat} {w : World} {p : Int} {most : Int} (hok : s.ok = true) (hp : p < 0 ∨ s.costs.length ≤ p) (hl : s.costs.length ≤ 1000 ∧ s.ups.length ≤ 1000 ∧ s.infos.length ≤ 1000) (hS : SelfR w s AC cC AU cU AI cI) : Calls Try.prog 73 #[selfV s.id (.slice AC s.costs.length cC) (.slice AU s.ups.length cU) (.slice AI s.infos.length cI), .int .i64 p, .int .i64 most] w fun e w' => e = .returned (.tuple #[cg V0 0, .bool false, .int .i64 3]) ∧ Below w.heap.size w w' := by
  obtain ⟨w0, hw0⟩ : ∃ W, W = (w.alloc (.cells #[.int .i64 s.id, .slice AC s.costs.length cC, .slice AU s.ups.length cU, .slice AI s.infos.length cI] 26)).alloc (.cells #[.int .i64 0, .int .i64 0, .int .i64 0, .int .i64 0, .int .i64 0] 33) := ⟨_, rfl⟩
  have I := Lib.hid (show InS w w0 s AC cC AU cU AI cI by rw [hw0]; exact (InS.new hS).below ((Below.refl _ _).alloc (Nat.le_refl _) _))
  have X := Lib.hid (show Bx w0 (w.heap.size + 1) 33 #[.int .i64 0, .int .i64 0, .int .i64 0, .int .i64 0, .int .i64 0] by rw [hw0]; exact Bx.new _ _ _ (by simp))
  have hz0 := I.out.x.lt
  have B0 := I.out.b
  clear hS
  replace hok := Lib.hid hok
  replace hl := Lib.hid hl
  by_cases hp0 : p < 0
  · clear hp
    go_enter Try.func73, Try.ntmps73
    go_wp2_with fail
    rw [← hw0]
    clear hw0
    go_at_call 28
    (with_reducible refine (o_right_to hok.out hl.out I.out.r).mono ?_)
    rintro e w1 ⟨rfl, hb1⟩
    have I_w1 := Lib.hid (I.out.below hb1)
    have X_w1 := Lib.hid (X.out.below hb1)
    have z0_w1 : w.heap.size < w1.heap.size := Nat.lt_of_lt_of_le hz0 hb1.size
    have B_w1 := bt B0 hb1
    clear I X hz0 B0 hb1
    have o_I_0 := I_w1.out.c (i := 0) rfl
    have o_I_1 := I_w1.out.c (i := 1) rfl
    have o_I_2 := I_w1.out.c (i := 2) rfl
    have o_I_3 := I_w1.out.c (i := 3) rfl
    have o_X_0 := X_w1.out.c (i := 0) rfl
    have o_X_1 := X_w1.out.c (i := 1) rfl
    have o_X_2 := X_w1.out.c (i := 2) rfl
    have o_X_3 := X_w1.out.c (i := 3) rfl
    have o_X_4 := X_w1.out.c (i := 4) rfl
    have p_X_0 := X_w1.out.f 0
    have p_X_1 := X_w1.out.f 1
    have p_X_2 := X_w1.out.f 2
    have p_X_3 := X_w1.out.f 3
    have p_X_4 := X_w1.out.f 4
    have hzx := X_w1.out.lt
    go_wp2_with fail
    refine bodyPost_ret (v := .tuple #[cg V0 0, .bool false, .int .i64 3]) (by simp [results, Try.results73, go_sem, o_X_0, o_X_1, o_X_2, o_X_3, o_X_4]) rfl ⟨rfl, ?_⟩
    exact below5 B_w1 (by omega) _ _ _ _ _
  · have hp1 : (s.costs.length : Int) ≤ p := by omega
    clear hp
    go_enter Try.func73, Try.ntmps73
    go_wp2_with fail
    rw [← hw0]
    clear hw0
    go_at_call 28
    (with_reducible refine (o_right_to hok.out hl.out I.out.r).mono ?_)
    rintro e w1 ⟨rfl, hb1⟩
    have I_w1 := Lib.hid (I.out.below hb1)
    have X_w1 := Lib.hid (X.out.below hb1)
    have z0_w1 : w.heap.size < w1.heap.size := Nat.lt_of_lt_of_le hz0 hb1.size
    have B_w1 := bt B0 hb1
    clear I X hz0 B0 hb1
    have o_I_0 := I_w1.out.c (i := 0) rfl
    have o_I_1 := I_w1.out.c (i := 1) rfl
    have o_I_2 := I_w1.out.c (i := 2) rfl
    have o_I_3 := I_w1.out.c (i := 3) rfl
    have o_X_0 := X_w1.out.c (i := 0) rfl
    have o_X_1 := X_w1.out.c (i := 1) rfl
    have o_X_2 := X_w1.out.c (i := 2) rfl
    have o_X_3 := X_w1.out.c (i := 3) rfl
    have o_X_4 := X_w1.out.c (i := 4) rfl
    have p_X_0 := X_w1.out.f 0
    have p_X_1 := X_w1.out.f 1
    have p_X_2 := X_w1.out.f 2
    have p_X_3 := X_w1.out.f 3
    have p_X_4 := X_w1.out.f 4
    have hzx := X_w1.out.lt
    go_wp2_with fail
    refine bodyPost_ret (v := .tuple #[cg V0 0, .bool false, .int .i64 3]) (by simp [results, Try.results73, go_sem, o_X_0, o_X_1, o_X_2, o_X_3, o_X_4]) rfl ⟨rfl, ?_⟩
    exact below5 B_w1 (by omega) _ _ _ _ _
set_option maxHeartbeats 8000000 in
theorem o_tell_arg {s : S} {AC : Option Addr} {cC : Nat} {AU : Option Addr} {cU : Nat} {AI : Option Addr} {cI : Nat} {w : World} {p : Nat} {most : Int} (hok : s.ok = true) (hp : p < s.costs.length) (hm : most < 1 ∨ 255 < most) (hl : s.costs.length ≤ 1000 ∧ s.ups.length ≤ 1000 ∧ s.infos.length ≤ 1000) (hS : SelfR w s AC cC AU cU AI cI) : Calls Try.prog 73 #[selfV s.id (.slice AC s.costs.length cC) (.slice AU s.ups.length cU) (.slice AI s.infos.length cI), .int .i64 p, .int .i64 most] w fun e w' => e = .returned (.tuple #[cg V0 0, .bool false, .int .i64 1]) ∧ Below w.heap.size w w' := by
  obtain ⟨w0, hw0⟩ : ∃ W, W = (w.alloc (.cells #[.int .i64 s.id, .slice AC s.costs.length cC, .slice AU s.ups.length cU, .slice AI s.infos.length cI] 26)).alloc (.cells #[.int .i64 0, .int .i64 0, .int .i64 0, .int .i64 0, .int .i64 0] 33) := ⟨_, rfl⟩
  have I := Lib.hid (show InS w w0 s AC cC AU cU AI cI by rw [hw0]; exact (InS.new hS).below ((Below.refl _ _).alloc (Nat.le_refl _) _))
  have X := Lib.hid (show Bx w0 (w.heap.size + 1) 33 #[.int .i64 0, .int .i64 0, .int .i64 0, .int .i64 0, .int .i64 0] by rw [hw0]; exact Bx.new _ _ _ (by simp))
  have hz0 := I.out.x.lt
  have B0 := I.out.b
  clear hS
  replace hok := Lib.hid hok
  replace hl := Lib.hid hl
  have hp0 : ¬ (p : Int) < 0 := by omega
  have hp1 : ¬ (s.costs.length : Int) ≤ (p : Int) := by omega
  by_cases hm0 : most < 1
  · clear hm
    go_enter Try.func73, Try.ntmps73
    go_wp2_with fail
    rw [← hw0]
    clear hw0
    go_at_call 28
    (with_reducible refine (o_right_to hok.out hl.out I.out.r).mono ?_)
    rintro e w1 ⟨rfl, hb1⟩
    have I_w1 := Lib.hid (I.out.below hb1)
    have X_w1 := Lib.hid (X.out.below hb1)
    have z0_w1 : w.heap.size < w1.heap.size := Nat.lt_of_lt_of_le hz0 hb1.size
    have B_w1 := bt B0 hb1
    clear I X hz0 B0 hb1
    have o_I_0 := I_w1.out.c (i := 0) rfl
    have o_I_1 := I_w1.out.c (i := 1) rfl
    have o_I_2 := I_w1.out.c (i := 2) rfl
    have o_I_3 := I_w1.out.c (i := 3) rfl
    have o_X_0 := X_w1.out.c (i := 0) rfl
    have o_X_1 := X_w1.out.c (i := 1) rfl
    have o_X_2 := X_w1.out.c (i := 2) rfl
    have o_X_3 := X_w1.out.c (i := 3) rfl
    have o_X_4 := X_w1.out.c (i := 4) rfl
    have p_X_0 := X_w1.out.f 0
    have p_X_1 := X_w1.out.f 1
    have p_X_2 := X_w1.out.f 2
    have p_X_3 := X_w1.out.f 3
    have p_X_4 := X_w1.out.f 4
    have hzx := X_w1.out.lt
    go_wp2_with fail
    refine bodyPost_ret (v := .tuple #[cg V0 0, .bool false, .int .i64 1]) (by simp [results, Try.results73, go_sem, o_X_0, o_X_1, o_X_2, o_X_3, o_X_4]) rfl ⟨rfl, ?_⟩
    exact below5 B_w1 (by omega) _ _ _ _ _
  · have hm1 : 255 < most := by omega
    clear hm
    go_enter Try.func73, Try.ntmps73
    go_wp2_with fail
    rw [← hw0]
    clear hw0
    go_at_call 28
    (with_reducible refine (o_right_to hok.out hl.out I.out.r).mono ?_)
    rintro e w1 ⟨rfl, hb1⟩
    have I_w1 := Lib.hid (I.out.below hb1)
    have X_w1 := Lib.hid (X.out.below hb1)
    have z0_w1 : w.heap.size < w1.heap.size := Nat.lt_of_lt_of_le hz0 hb1.size
    have B_w1 := bt B0 hb1
    clear I X hz0 B0 hb1
    have o_I_0 := I_w1.out.c (i := 0) rfl
    have o_I_1 := I_w1.out.c (i := 1) rfl
    have o_I_2 := I_w1.out.c (i := 2) rfl
    have o_I_3 := I_w1.out.c (i := 3) rfl
    have o_X_0 := X_w1.out.c (i := 0) rfl
    have o_X_1 := X_w1.out.c (i := 1) rfl
    have o_X_2 := X_w1.out.c (i := 2) rfl
    have o_X_3 := X_w1.out.c (i := 3) rfl
    have o_X_4 := X_w1.out.c (i := 4) rfl
    have p_X_0 := X_w1.out.f 0
    have p_X_1 := X_w1.out.f 1
    have p_X_2 := X_w1.out.f 2
    have p_X_3 := X_w1.out.f 3
    have p_X_4 := X_w1.out.f 4
    have hzx := X_w1.out.lt
    go_wp2_with fail
    refine bodyPost_ret (v := .tuple #[cg V0 0, .bool false, .int .i64 1]) (by simp [results, Try.results73, go_sem, o_X_0, o_X_1, o_X_2, o_X_3, o_X_4]) rfl ⟨rfl, ?_⟩
    exact below5 B_w1 (by omega) _ _ _ _ _
set_option maxHeartbeats 8000000 in
theorem o_tell_ok {s : S} {AC : Option Addr} {cC : Nat} {AU : Option Addr} {cU : Nat} {AI : Option Addr} {cI : Nat} {w : World} {p : Nat} {most : Int} (hok : s.ok = true) (hp : p < s.costs.length) (h1 : 1 ≤ most) (h2 : most ≤ 255) (hl : s.costs.length ≤ 1000 ∧ s.ups.length ≤ 1000 ∧ s.infos.length ≤ 1000) (hS : SelfR w s AC cC AU cU AI cI) : Calls Try.prog 73 #[selfV s.id (.slice AC s.costs.length cC) (.slice AU s.ups.length cU) (.slice AI s.infos.length cI), .int .i64 p, .int .i64 most] w fun e w' => e = .returned (.tuple #[cg (s.told p most) (s.toldAge p most), .bool (s.tell p most), .int .i64 0]) ∧ Below w.heap.size w w' := by
  obtain ⟨w0, hw0⟩ : ∃ W, W = (w.alloc (.cells #[.int .i64 s.id, .slice AC s.costs.length cC, .slice AU s.ups.length cU, .slice AI s.infos.length cI] 26)).alloc (.cells #[.int .i64 0, .int .i64 0, .int .i64 0, .int .i64 0, .int .i64 0] 33) := ⟨_, rfl⟩
  have I := Lib.hid (show InS w w0 s AC cC AU cU AI cI by rw [hw0]; exact (InS.new hS).below ((Below.refl _ _).alloc (Nat.le_refl _) _))
  have X := Lib.hid (show Bx w0 (w.heap.size + 1) 33 #[.int .i64 0, .int .i64 0, .int .i64 0, .int .i64 0, .int .i64 0] by rw [hw0]; exact Bx.new _ _ _ (by simp))
  have hz0 := I.out.x.lt
  have B0 := I.out.b
  clear hS
  have hF := Lib.hid (Fit.mk hok)
  have hage := Lib.hid (show ∀ b, s.root = some b → 0 ≤ (s.info b).age ∧ (s.info b).age ≤ 255 from fun b h => (ok_info hok (by have := (root_lt h).1; have := (Fit.mk hok).len; omega)).1)
  obtain ⟨T, hT⟩ : ∃ v, s.tells p = v := ⟨_, rfl⟩
  obtain ⟨tv, htv⟩ : ∃ v, s.told p most = v := ⟨_, rfl⟩
  obtain ⟨ta, hta⟩ : ∃ v, s.toldAge p most = v := ⟨_, rfl⟩
  obtain ⟨tb, htb⟩ : ∃ v, s.tell p most = v := ⟨_, rfl⟩
  obtain ⟨rl, hrl⟩ : ∃ v, s.role p = v := ⟨_, rfl⟩
  rw [htv, hta, htb]
  unfold S.told at htv
  unfold S.toldAge at hta
  rw [htb] at htv hta
  unfold S.tell at htb
  rw [hrl] at htb
  rw [hT] at htv
  replace hrl := Lib.hid hrl
  have hp0 : ¬ (p : Int) < 0 := by omega
  have hp1 : ¬ (s.costs.length : Int) ≤ (p : Int) := by omega
  have hm0 : ¬ most < 1 := by omega
  have hm1 : ¬ 255 < most := by omega
  replace hp := Lib.hid hp
  replace hok := Lib.hid hok
  replace hl := Lib.hid hl
  cases hrt : s.root with
  | none =>
    have hR := Lib.hid (show wayV s s.root = noI by rw [hrt]; rfl)
    have hti : T = ⟨s.id, 0, s.id, p⟩ := by rw [← hT]; unfold S.tells; rw [hrt]
    have hme := meth_none (.agg #[])
    have hpo := Lib.hid port_of_none
    obtain ⟨n, hn⟩ : ∃ n : Int, -1 = n := ⟨_, rfl⟩
    have hrn := Lib.hid (show s.rootI = n by unfold S.rootI; rw [hrt]; exact hn)
    rw [hn] at hpo
    replace hn := Lib.hid hn
    obtain ⟨ag, hag⟩ : ∃ a : Int, 0 = a := ⟨_, rfl⟩
    have hra := Lib.hid (show s.age = ag by unfold S.age; rw [hrt]; exact hag)
    have htd := Lib.hid (show ∀ W, Calls Try.prog 101 #[.agg #[], .int .i64 s.id, .int .i64 p] W fun e w' => e = .returned (cg T ag) ∧ Below W.heap.size W w' from fun W => by rw [hti, ← hag]; exact told_none s.id p W)
    replace hag := Lib.hid hag
    have hfd := fieldC T ag
    have hrt' := Lib.hid hrt
    replace hT := Lib.hid hT
    clear hrt hti hage
    rw [hra.out] at hta htb
    replace htv := Lib.hid htv
    replace hta := Lib.hid hta
    replace htb := Lib.hid htb
    go_enter Try.func73, Try.ntmps73
    go_wp2_with fail
    rw [← hw0]
    clear hw0
    go_at_call 28
    (with_reducible refine (o_right_to hok.out hl.out I.out.r).mono ?_)
    rintro e w1 ⟨rfl, hb1⟩
    have I_w1 := Lib.hid (I.out.below hb1)
    have X_w1 := Lib.hid (X.out.below hb1)
    have z0_w1 : w.heap.size < w1.heap.size := Nat.lt_of_lt_of_le hz0 hb1.size
    have B_w1 := bt B0 hb1
    clear I X hz0 B0 hb1
    have o_I_0 := I_w1.out.c (i := 0) rfl
    have o_I_1 := I_w1.out.c (i := 1) rfl
    have o_I_2 := I_w1.out.c (i := 2) rfl
    have o_I_3 := I_w1.out.c (i := 3) rfl
    go_wp2_with fail
    clear o_I_0 o_I_1 o_I_2 o_I_3
    go_at_call 58
    (with_reducible refine (o_rw_to hF.out I_w1.out.r hR.out).mono ?_)
    rintro e w2 ⟨rfl, hb2⟩
    have I_w2 := Lib.hid (I_w1.out.below hb2)
    have X_w2 := Lib.hid (X_w1.out.below hb2)
    have z0_w2 : w.heap.size < w2.heap.size := Nat.lt_of_lt_of_le z0_w1 hb2.size
    have B_w2 := bt B_w1 hb2
    clear I_w1 X_w1 z0_w1 B_w1 hb2
    clear hp0 hp1 hm0 hm1
    have o_I_0 := I_w2.out.c (i := 0) rfl
    have o_I_1 := I_w2.out.c (i := 1) rfl
    have o_I_2 := I_w2.out.c (i := 2) rfl
    have o_I_3 := I_w2.out.c (i := 3) rfl
    go_wp2_with fail
    clear o_I_0 o_I_1 o_I_2 o_I_3
    go_at_call 101
    (with_reducible refine (htd.out _).mono ?_)
    rintro e w3 ⟨rfl, hb3⟩
    have I_w3 := Lib.hid (I_w2.out.below hb3)
    have X_w3 := Lib.hid (X_w2.out.below hb3)
    have z0_w3 : w.heap.size < w3.heap.size := Nat.lt_of_lt_of_le z0_w2 hb3.size
    have B_w3 := bt B_w2 hb3
    clear I_w2 X_w2 z0_w2 B_w2 hb3
    go_upto_region 9 with fail
    obtain ⟨w4, hw4⟩ : ∃ W, W = w3.alloc (.cells #[.int .i64 T.r, .int .i64 T.c, .int .i64 T.b, .int .i64 T.p, .int .i64 ag] 33) := ⟨_, rfl⟩
    have bw4 : Below w3.heap.size w3 w4 := by rw [hw4]; exact (Below.refl _ _).alloc (Nat.le_refl _) _
    have Xw4 : Bx w4 w3.heap.size 33 #[.int .i64 T.r, .int .i64 T.c, .int .i64 T.b, .int .i64 T.p, .int .i64 ag] := by rw [hw4]; exact Bx.new _ _ _ rfl
    rw [← hw4]
    clear hw4
    have I_w4 := Lib.hid (I_w3.out.below bw4)
    have X_w4 := Lib.hid (X_w3.out.below bw4)
    have K_w4 := Lib.hid (Xw4)
    have z0_w4 : w.heap.size < w4.heap.size := Nat.lt_of_lt_of_le z0_w3 bw4.size
    have B_w4 := bt B_w3 bw4
    clear I_w3 X_w3 z0_w3 B_w3 bw4
    have z1_w4 : w3.heap.size < w4.heap.size := Xw4.lt
    clear Xw4
    by_cases hg : most ≤ ag
    · obtain rfl : false = tb := by rw [← htb.out]; (simp) <;> omega
      obtain rfl : V0 = tv := htv.out
      obtain rfl : 0 = ta := hta.out
      have o_K_0 := K_w4.out.c (i := 0) rfl
      have o_K_1 := K_w4.out.c (i := 1) rfl
      have o_K_2 := K_w4.out.c (i := 2) rfl
      have o_K_3 := K_w4.out.c (i := 3) rfl
      have o_K_4 := K_w4.out.c (i := 4) rfl
      have o_X_0 := X_w4.out.c (i := 0) rfl
      have o_X_1 := X_w4.out.c (i := 1) rfl
      have o_X_2 := X_w4.out.c (i := 2) rfl
      have o_X_3 := X_w4.out.c (i := 3) rfl
      have o_X_4 := X_w4.out.c (i := 4) rfl
      have p_X_0 := X_w4.out.f 0
      have p_X_1 := X_w4.out.f 1
      have p_X_2 := X_w4.out.f 2
      have p_X_3 := X_w4.out.f 3
      have p_X_4 := X_w4.out.f 4
      have hzx := X_w4.out.lt
      go_wp2_with fail
      refine bodyPost_ret (v := .tuple #[cg V0 0, .bool false, .int .i64 0]) (by simp [results, Try.results73, go_sem, o_X_0, o_X_1, o_X_2, o_X_3, o_X_4]) rfl ⟨rfl, ?_⟩
      exact below5 B_w4 (by omega) _ _ _ _ _
    · have o_K_0 := K_w4.out.c (i := 0) rfl
      have o_K_1 := K_w4.out.c (i := 1) rfl
      have o_K_2 := K_w4.out.c (i := 2) rfl
      have o_K_3 := K_w4.out.c (i := 3) rfl
      have o_K_4 := K_w4.out.c (i := 4) rfl
      have o_I_0 := I_w4.out.c (i := 0) rfl
      have o_I_1 := I_w4.out.c (i := 1) rfl
      have o_I_2 := I_w4.out.c (i := 2) rfl
      have o_I_3 := I_w4.out.c (i := 3) rfl
      go_wp2_with fail
      clear o_K_0 o_K_1 o_K_2 o_K_3 o_K_4 o_I_0 o_I_1 o_I_2 o_I_3
      go_at_call 68
      (with_reducible refine (o_role_to hF.out I_w4.out.r hp.out hR.out hrl.out).mono ?_)
      rintro e w5 ⟨rfl, hb5⟩
      have I_w5 := Lib.hid (I_w4.out.below hb5)
      have X_w5 := Lib.hid (X_w4.out.below hb5)
      have K_w5 := Lib.hid (K_w4.out.below hb5)
      have z0_w5 : w.heap.size < w5.heap.size := Nat.lt_of_lt_of_le z0_w4 hb5.size
      have z1_w5 : w3.heap.size < w5.heap.size := Nat.lt_of_lt_of_le z1_w4 hb5.size
      have B_w5 := bt B_w4 hb5
      clear I_w4 X_w4 K_w4 z0_w4 z1_w4 B_w4 hb5
      by_cases hr1 : rl = 1
      · obtain rfl : true = tb := by rw [← htb.out, hr1]; (simp) <;> omega
        obtain rfl : T = tv := htv.out
        obtain rfl : ag = ta := hta.out
        subst hr1
        have o_K_0 := K_w5.out.c (i := 0) rfl
        have o_K_1 := K_w5.out.c (i := 1) rfl
        have o_K_2 := K_w5.out.c (i := 2) rfl
        have o_K_3 := K_w5.out.c (i := 3) rfl
        have o_K_4 := K_w5.out.c (i := 4) rfl
        have o_X_0 := X_w5.out.c (i := 0) rfl
        have o_X_1 := X_w5.out.c (i := 1) rfl
        have o_X_2 := X_w5.out.c (i := 2) rfl
        have o_X_3 := X_w5.out.c (i := 3) rfl
        have o_X_4 := X_w5.out.c (i := 4) rfl
        have p_X_0 := X_w5.out.f 0
        have p_X_1 := X_w5.out.f 1
        have p_X_2 := X_w5.out.f 2
        have p_X_3 := X_w5.out.f 3
        have p_X_4 := X_w5.out.f 4
        have hzx := X_w5.out.lt
        go_wp2_with fail
        refine bodyPost_ret (v := .tuple #[cg T ag, .bool true, .int .i64 0]) (by simp [results, Try.results73, go_sem, o_X_0, o_X_1, o_X_2, o_X_3, o_X_4]) rfl ⟨rfl, ?_⟩
        exact below5 B_w5 (by omega) _ _ _ _ _
      · obtain rfl : false = tb := by rw [← htb.out]; simp [hr1]
        obtain rfl : V0 = tv := htv.out
        obtain rfl : 0 = ta := hta.out
        have hr2 : (rl != 1) = true := by simpa using hr1
        replace hr1 := Lib.hid hr1
        have o_K_0 := K_w5.out.c (i := 0) rfl
        have o_K_1 := K_w5.out.c (i := 1) rfl
        have o_K_2 := K_w5.out.c (i := 2) rfl
        have o_K_3 := K_w5.out.c (i := 3) rfl
        have o_K_4 := K_w5.out.c (i := 4) rfl
        have o_X_0 := X_w5.out.c (i := 0) rfl
        have o_X_1 := X_w5.out.c (i := 1) rfl
        have o_X_2 := X_w5.out.c (i := 2) rfl
        have o_X_3 := X_w5.out.c (i := 3) rfl
        have o_X_4 := X_w5.out.c (i := 4) rfl
        have p_X_0 := X_w5.out.f 0
        have p_X_1 := X_w5.out.f 1
        have p_X_2 := X_w5.out.f 2
        have p_X_3 := X_w5.out.f 3
        have p_X_4 := X_w5.out.f 4
        have hzx := X_w5.out.lt
        go_wp2_with fail
        refine bodyPost_ret (v := .tuple #[cg V0 0, .bool false, .int .i64 0]) (by simp [results, Try.results73, go_sem, o_X_0, o_X_1, o_X_2, o_X_3, o_X_4]) rfl ⟨rfl, ?_⟩
        exact below5 B_w5 (by omega) _ _ _ _ _
  | some b =>
    have hR := Lib.hid (show wayV s s.root = pwI b (s.way b) (s.info b).age by rw [hrt]; rfl)
    have hti : T = ⟨(s.way b).r, (s.way b).c, s.id, p⟩ := by rw [← hT]; unfold S.tells; rw [hrt]
    obtain ⟨hg0, hg1⟩ := hage.out b hrt
    have hme := meth_port (pw b (s.way b) (s.info b).age)
    have htd := Lib.hid fun W => told_port b (s.way b) (s.info b).age s.id p W hg0 hg1
    rw [← hti] at htd
    have hpo := Lib.hid fun W => port_of_port b (s.way b) (s.info b).age W
    clear hg0 hg1
    obtain ⟨n, hn⟩ : ∃ n : Int, (b : Int) = n := ⟨_, rfl⟩
    have hrn := Lib.hid (show s.rootI = n by unfold S.rootI; rw [hrt]; exact hn)
    rw [hn] at hpo htd hme hR
    replace hn := Lib.hid hn
    obtain ⟨ag, hag⟩ : ∃ a : Int, (s.info b).age + 1 = a := ⟨_, rfl⟩
    have hra := Lib.hid (show s.age = ag by unfold S.age; rw [hrt]; exact hag)
    rw [hag] at htd
    replace hag := Lib.hid hag
    generalize s.way b = vb at *
    generalize (s.info b).age = ab at *
    have hfd := fieldC T ag
    have hrt' := Lib.hid hrt
    replace hT := Lib.hid hT
    clear hrt hti hage
    rw [hra.out] at hta htb
    replace htv := Lib.hid htv
    replace hta := Lib.hid hta
    replace htb := Lib.hid htb
    go_enter Try.func73, Try.ntmps73
    go_wp2_with fail
    rw [← hw0]
    clear hw0
    go_at_call 28
    (with_reducible refine (o_right_to hok.out hl.out I.out.r).mono ?_)
    rintro e w1 ⟨rfl, hb1⟩
    have I_w1 := Lib.hid (I.out.below hb1)
    have X_w1 := Lib.hid (X.out.below hb1)
    have z0_w1 : w.heap.size < w1.heap.size := Nat.lt_of_lt_of_le hz0 hb1.size
    have B_w1 := bt B0 hb1
    clear I X hz0 B0 hb1
    have o_I_0 := I_w1.out.c (i := 0) rfl
    have o_I_1 := I_w1.out.c (i := 1) rfl
    have o_I_2 := I_w1.out.c (i := 2) rfl
    have o_I_3 := I_w1.out.c (i := 3) rfl
    go_wp2_with fail
    clear o_I_0 o_I_1 o_I_2 o_I_3
    go_at_call 58
    (with_reducible refine (o_rw_to hF.out I_w1.out.r hR.out).mono ?_)
    rintro e w2 ⟨rfl, hb2⟩
    have I_w2 := Lib.hid (I_w1.out.below hb2)
    have X_w2 := Lib.hid (X_w1.out.below hb2)
    have z0_w2 : w.heap.size < w2.heap.size := Nat.lt_of_lt_of_le z0_w1 hb2.size
    have B_w2 := bt B_w1 hb2
    clear I_w1 X_w1 z0_w1 B_w1 hb2
    clear hp0 hp1 hm0 hm1
    have o_I_0 := I_w2.out.c (i := 0) rfl
    have o_I_1 := I_w2.out.c (i := 1) rfl
    have o_I_2 := I_w2.out.c (i := 2) rfl
    have o_I_3 := I_w2.out.c (i := 3) rfl
    go_wp2_with fail
    clear o_I_0 o_I_1 o_I_2 o_I_3
    go_at_call 102
    (with_reducible refine (htd.out _).mono ?_)
    rintro e w3 ⟨rfl, hb3⟩
    have I_w3 := Lib.hid (I_w2.out.below hb3)
    have X_w3 := Lib.hid (X_w2.out.below hb3)
    have z0_w3 : w.heap.size < w3.heap.size := Nat.lt_of_lt_of_le z0_w2 hb3.size
    have B_w3 := bt B_w2 hb3
    clear I_w2 X_w2 z0_w2 B_w2 hb3
    go_upto_region 9 with fail
    obtain ⟨w4, hw4⟩ : ∃ W, W = w3.alloc (.cells #[.int .i64 T.r, .int .i64 T.c, .int .i64 T.b, .int .i64 T.p, .int .i64 ag] 33) := ⟨_, rfl⟩
    have bw4 : Below w3.heap.size w3 w4 := by rw [hw4]; exact (Below.refl _ _).alloc (Nat.le_refl _) _
    have Xw4 : Bx w4 w3.heap.size 33 #[.int .i64 T.r, .int .i64 T.c, .int .i64 T.b, .int .i64 T.p, .int .i64 ag] := by rw [hw4]; exact Bx.new _ _ _ rfl
    rw [← hw4]
    clear hw4
    have I_w4 := Lib.hid (I_w3.out.below bw4)
    have X_w4 := Lib.hid (X_w3.out.below bw4)
    have K_w4 := Lib.hid (Xw4)
    have z0_w4 : w.heap.size < w4.heap.size := Nat.lt_of_lt_of_le z0_w3 bw4.size
    have B_w4 := bt B_w3 bw4
    clear I_w3 X_w3 z0_w3 B_w3 bw4
    have z1_w4 : w3.heap.size < w4.heap.size := Xw4.lt
    clear Xw4
    by_cases hg : most ≤ ag
    · obtain rfl : false = tb := by rw [← htb.out]; (simp) <;> omega
      obtain rfl : V0 = tv := htv.out
      obtain rfl : 0 = ta := hta.out
      have o_K_0 := K_w4.out.c (i := 0) rfl
      have o_K_1 := K_w4.out.c (i := 1) rfl
      have o_K_2 := K_w4.out.c (i := 2) rfl
      have o_K_3 := K_w4.out.c (i := 3) rfl
      have o_K_4 := K_w4.out.c (i := 4) rfl
      have o_X_0 := X_w4.out.c (i := 0) rfl
      have o_X_1 := X_w4.out.c (i := 1) rfl
      have o_X_2 := X_w4.out.c (i := 2) rfl
      have o_X_3 := X_w4.out.c (i := 3) rfl
      have o_X_4 := X_w4.out.c (i := 4) rfl
      have p_X_0 := X_w4.out.f 0
      have p_X_1 := X_w4.out.f 1
      have p_X_2 := X_w4.out.f 2
      have p_X_3 := X_w4.out.f 3
      have p_X_4 := X_w4.out.f 4
      have hzx := X_w4.out.lt
      go_wp2_with fail
      refine bodyPost_ret (v := .tuple #[cg V0 0, .bool false, .int .i64 0]) (by simp [results, Try.results73, go_sem, o_X_0, o_X_1, o_X_2, o_X_3, o_X_4]) rfl ⟨rfl, ?_⟩
      exact below5 B_w4 (by omega) _ _ _ _ _
    · have o_K_0 := K_w4.out.c (i := 0) rfl
      have o_K_1 := K_w4.out.c (i := 1) rfl
      have o_K_2 := K_w4.out.c (i := 2) rfl
      have o_K_3 := K_w4.out.c (i := 3) rfl
      have o_K_4 := K_w4.out.c (i := 4) rfl
      have o_I_0 := I_w4.out.c (i := 0) rfl
      have o_I_1 := I_w4.out.c (i := 1) rfl
      have o_I_2 := I_w4.out.c (i := 2) rfl
      have o_I_3 := I_w4.out.c (i := 3) rfl
      go_wp2_with fail
      clear o_K_0 o_K_1 o_K_2 o_K_3 o_K_4 o_I_0 o_I_1 o_I_2 o_I_3
      go_at_call 68
      (with_reducible refine (o_role_to hF.out I_w4.out.r hp.out hR.out hrl.out).mono ?_)
      rintro e w5 ⟨rfl, hb5⟩
      have I_w5 := Lib.hid (I_w4.out.below hb5)
      have X_w5 := Lib.hid (X_w4.out.below hb5)
      have K_w5 := Lib.hid (K_w4.out.below hb5)
      have z0_w5 : w.heap.size < w5.heap.size := Nat.lt_of_lt_of_le z0_w4 hb5.size
      have z1_w5 : w3.heap.size < w5.heap.size := Nat.lt_of_lt_of_le z1_w4 hb5.size
      have B_w5 := bt B_w4 hb5
      clear I_w4 X_w4 K_w4 z0_w4 z1_w4 B_w4 hb5
      by_cases hr1 : rl = 1
      · obtain rfl : true = tb := by rw [← htb.out, hr1]; (simp) <;> omega
        obtain rfl : T = tv := htv.out
        obtain rfl : ag = ta := hta.out
        subst hr1
        have o_K_0 := K_w5.out.c (i := 0) rfl
        have o_K_1 := K_w5.out.c (i := 1) rfl
        have o_K_2 := K_w5.out.c (i := 2) rfl
        have o_K_3 := K_w5.out.c (i := 3) rfl
        have o_K_4 := K_w5.out.c (i := 4) rfl
        have o_X_0 := X_w5.out.c (i := 0) rfl
        have o_X_1 := X_w5.out.c (i := 1) rfl
        have o_X_2 := X_w5.out.c (i := 2) rfl
        have o_X_3 := X_w5.out.c (i := 3) rfl
        have o_X_4 := X_w5.out.c (i := 4) rfl
        have p_X_0 := X_w5.out.f 0
        have p_X_1 := X_w5.out.f 1
        have p_X_2 := X_w5.out.f 2
        have p_X_3 := X_w5.out.f 3
        have p_X_4 := X_w5.out.f 4
        have hzx := X_w5.out.lt
        go_wp2_with fail
        refine bodyPost_ret (v := .tuple #[cg T ag, .bool true, .int .i64 0]) (by simp [results, Try.results73, go_sem, o_X_0, o_X_1, o_X_2, o_X_3, o_X_4]) rfl ⟨rfl, ?_⟩
        exact below5 B_w5 (by omega) _ _ _ _ _
      · obtain rfl : false = tb := by rw [← htb.out]; simp [hr1]
        obtain rfl : V0 = tv := htv.out
        obtain rfl : 0 = ta := hta.out
        have hr2 : (rl != 1) = true := by simpa using hr1
        replace hr1 := Lib.hid hr1
        have o_K_0 := K_w5.out.c (i := 0) rfl
        have o_K_1 := K_w5.out.c (i := 1) rfl
        have o_K_2 := K_w5.out.c (i := 2) rfl
        have o_K_3 := K_w5.out.c (i := 3) rfl
        have o_K_4 := K_w5.out.c (i := 4) rfl
        have o_X_0 := X_w5.out.c (i := 0) rfl
        have o_X_1 := X_w5.out.c (i := 1) rfl
        have o_X_2 := X_w5.out.c (i := 2) rfl
        have o_X_3 := X_w5.out.c (i := 3) rfl
        have o_X_4 := X_w5.out.c (i := 4) rfl
        have p_X_0 := X_w5.out.f 0
        have p_X_1 := X_w5.out.f 1
        have p_X_2 := X_w5.out.f 2
        have p_X_3 := X_w5.out.f 3
        have p_X_4 := X_w5.out.f 4
        have hzx := X_w5.out.lt
        go_wp2_with fail
        refine bodyPost_ret (v := .tuple #[cg V0 0, .bool false, .int .i64 0]) (by simp [results, Try.results73, go_sem, o_X_0, o_X_1, o_X_2, o_X_3, o_X_4]) rfl ⟨rfl, ?_⟩
        exact below5 B_w5 (by omega) _ _ _ _ _
end Go.Proofs.Ytidoaccidmmalaa.RoleP
