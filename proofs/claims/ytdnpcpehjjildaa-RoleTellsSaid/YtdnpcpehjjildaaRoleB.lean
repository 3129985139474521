/-
  RoleBetter, by the contracts of role's own functions.
-/
import Derived.Test.YtdnpcpehjjildaaRoleN
import Derived.Test.YtdnpcpehjjildaaRoleP
namespace Go.Proofs.Ytdnpcpehjjildaa.RoleP
open Go.RowKit Go.Sort Go.Proofs.Ytdnpcpehjjildaa.SliceP Go.Proofs.Ytdnpcpehjjildaa.BoxP Go.Proofs.Ytdnpcpehjjildaa.VecP
open Go.Proofs.Ytdnpcpehjjildaa.IntP (RowI SlI OwnI)
open Go.Proofs.Ytdnpcpehjjildaa.BoolP (RowB SlB)
set_option linter.unusedVariables false
set_option linter.unusedSimpArgs false
set_option maxRecDepth 100000
theorem getElem?_info {f : S} {j : Nat} (h : j < f.infos.length) : f.infos[j]? = some (f.info j) := info_at h
theorem vright_to (v : V) (w : World) : Calls Try.prog 21 #[vg v] w fun e w' => e = .returned (.bool v.ok) ∧ Below w.heap.size w w' := right_any v.r v.c v.b v.p w
theorem tellIt_ok {s : S} {p : Nat} {v : V} (h : s.ok = true) (hp : p < s.infos.length) (hu : s.up p = true) (hv : v.ok = true) : (s.tellIt p v).ok = true := by
  unfold S.ok
  rw [Bool.and_eq_true, List.all_eq_true]
  constructor
  · have := head_iff.1 (ok_head h)
    exact head_iff.2 ⟨this.1, this.2.1, this.2.2.1, by unfold S.tellIt; simp only [List.length_set]; exact this.2.2.2⟩
  · intro i hi
    have hi' : i < s.costs.length := List.mem_range.1 hi
    obtain ⟨h1, h2, h3⟩ := ok_port h hi'
    unfold S.portOk
    have e1 : (s.tellIt p v).cost i = s.cost i := rfl
    have e2 : (s.tellIt p v).up i = s.up i := rfl
    rw [e1, e2, decide_eq_true h1, decide_eq_true h2, Bool.true_and, Bool.true_and]
    by_cases e : i = p
    · subst e; rw [info_new hp]; unfold N.ok; rw [hu]; simp [hv]
    · rw [info_same e]; exact h3
theorem root_told (C : RoleC) {f : S} {j : Nat} {v nu : V} {ni : Int} {AC : Option Addr} {cC : Nat} {AU : Option Addr} {cU : Nat} {AI : Option Addr} {cI : Nat} {w : World} (h : (f.tellIt j v).ok = true) (hv : (f.tellIt j v).tells 0 = nu) (hn : (f.tellIt j v).rootI = ni) (a : Arg w (f.tellIt j v) AC cC AU cU AI cI) :
    Calls Try.prog 8 #[selfV f.id (.slice AC f.costs.length cC) (.slice AU f.ups.length cU) (.slice AI f.infos.length cI)] w fun e w' => e = .returned (.tuple #[vg nu, .int .i64 ni, .int .i64 0]) ∧ Below w.heap.size w w' := by
  have := root_ok_to C h hv hn a
  rw [show (f.tellIt j v).infos.length = f.infos.length by unfold S.tellIt; simp] at this
  exact this
theorem grown_cell (w : World) (b o : Nat) (v : Value) : w.grownBy (w.setCell ⟨b, o, none⟩ v) (some b) :=
  ⟨rfl, rfl, rfl, by simp, fun k _ hk => Below.heap_setCell _ _ _ k (fun e => hk (by rw [e]))⟩
theorem OwnN.cell {w : World} {B q : Nat} {v : Value} {l : List N} (h : OwnN w B v l) (hq : q < B) (i : Nat) (u : Value) : OwnN (w.setCell ⟨q, i, none⟩ u) B v l :=
  Own.kept h (grown_cell w q i u) (by
    cases hv : v.ownBlock with
    | none => exact .inl rfl
    | some k => exact .inr (by have := (h.lt k hv).1; simp; omega))
theorem Bx.put6 {w : World} {b g o : Nat} {T : TypeId} {vals : Array Value} (h : Bx w b T vals) (hne : b < g) (x : N) : Bx (put6 w g o x) b T vals :=
  (((((h.other (Nat.ne_of_lt hne) _ _).other (Nat.ne_of_lt hne) _ _).other (Nat.ne_of_lt hne) _ _).other (Nat.ne_of_lt hne) _ _).other (Nat.ne_of_lt hne) _ _).other (Nat.ne_of_lt hne) _ _
theorem below_put6 {n : Nat} {w0 w : World} {g o : Nat} (h : Below n w0 w) (hg : n ≤ g) (x : N) : Below n w0 (put6 w g o x) :=
  (((((h.setCell hg _).setCell hg _).setCell hg _).setCell hg _).setCell hg _).setCell hg _
set_option maxHeartbeats 8000000 in
theorem better_law (C : RoleC) {s : S} {AC : Option Addr} {cC : Nat} {AU : Option Addr} {cU : Nat} {AI : Option Addr} {cI : Nat} {w : World} (hS : SelfR w s AC cC AU cU AI cI) (hk : cC ≤ 9223372036854775807 ∧ cU ≤ 9223372036854775807 ∧ cI ≤ 9223372036854775807) (p : Int) (v : V) :
    Calls Try.prog 6 #[selfV s.id (.slice AC s.costs.length cC) (.slice AU s.ups.length cU) (.slice AI s.infos.length cI), .int .i64 p, vg v] w (True1 w) := by
  go_enter Try.func6, Try.ntmps6
  have S0 := Lib.hid hS
  go_wp2_with fail
  have hz1 : w.heap.size + 1 = (w.alloc (.cells #[.int .i64 s.id, .slice AC s.costs.length cC, .slice AU s.ups.length cU, .slice AI s.infos.length cI] 26)).heap.size := by simp
  rw [hz1]
  clear hz1
  obtain ⟨w1, hw1⟩ : ∃ W, W = w.alloc (.cells #[.int .i64 s.id, .slice AC s.costs.length cC, .slice AU s.ups.length cU, .slice AI s.infos.length cI] 26) := ⟨_, rfl⟩
  have bw1 : Below w.heap.size w w1 := by rw [hw1]; exact (Below.refl _ _).alloc (Nat.le_refl _) _
  have Xw1 : Bx w1 w.heap.size 26 #[.int .i64 s.id, .slice AC s.costs.length cC, .slice AU s.ups.length cU, .slice AI s.infos.length cI] := by rw [hw1]; exact Bx.new _ _ _ rfl
  rw [← hw1]
  clear hw1
  have S_w1 := Lib.hid (S0.out.below bw1)
  have T0_w1 := Lib.hid (Xw1)
  clear S0
  have z0_w1 : w.heap.size < w1.heap.size := Xw1.lt
  clear Xw1
  have hne := Lib.hid (show w.heap.size < w1.heap.size from z0_w1)
  obtain ⟨w2, hw2⟩ : ∃ W, W = w1.alloc (.cells #[.int .i64 v.r, .int .i64 v.c, .int .i64 v.b, .int .i64 v.p] 29) := ⟨_, rfl⟩
  have bw2 : Below w1.heap.size w1 w2 := by rw [hw2]; exact (Below.refl _ _).alloc (Nat.le_refl _) _
  have Xw2 : Bx w2 w1.heap.size 29 #[.int .i64 v.r, .int .i64 v.c, .int .i64 v.b, .int .i64 v.p] := by rw [hw2]; exact Bx.new _ _ _ rfl
  rw [← hw2]
  clear hw2
  have S_w2 := Lib.hid (S_w1.out.below bw2)
  have T0_w2 := Lib.hid (T0_w1.out.below bw2)
  have VB_w2 := Lib.hid (Xw2)
  have z0_w2 : w.heap.size < w2.heap.size := Nat.lt_of_lt_of_le z0_w1 bw2.size
  have B_w2 := bt bw1 bw2
  clear S_w1 T0_w1 z0_w1 bw1 bw2
  have z1_w2 : w1.heap.size < w2.heap.size := Xw2.lt
  clear Xw2
  go_at_call 7
  (with_reducible refine (few_any S_w2.out hk.1 hk.2.1 hk.2.2).mono ?_)
  rintro e w3 ⟨rfl, hb3⟩
  have S_w3 := Lib.hid (S_w2.out.below hb3)
  have T0_w3 := Lib.hid (T0_w2.out.below hb3)
  have VB_w3 := Lib.hid (VB_w2.out.below hb3)
  have z0_w3 : w.heap.size < w3.heap.size := Nat.lt_of_lt_of_le z0_w2 hb3.size
  have z1_w3 : w1.heap.size < w3.heap.size := Nat.lt_of_lt_of_le z1_w2 hb3.size
  have B_w3 := bt B_w2 hb3
  clear S_w2 T0_w2 VB_w2 z0_w2 z1_w2 B_w2 hb3
  have o_T0_0 := T0_w3.out.c (i := 0) rfl
  have o_T0_1 := T0_w3.out.c (i := 1) rfl
  have o_T0_2 := T0_w3.out.c (i := 2) rfl
  have o_T0_3 := T0_w3.out.c (i := 3) rfl
  have p_T0_0 := T0_w3.out.f 0
  have p_T0_1 := T0_w3.out.f 1
  have p_T0_2 := T0_w3.out.f 2
  have p_T0_3 := T0_w3.out.f 3
  go_upto_region 2 with fail
  clear o_T0_0 o_T0_1 o_T0_2 o_T0_3 p_T0_0 p_T0_1 p_T0_2 p_T0_3
  obtain ⟨w4, hw4⟩ : ∃ W, W = ((((w3.setCell ⟨w.heap.size, 0, none⟩ (.int .i64 (few s).id)).setCell ⟨w.heap.size, 1, none⟩ (.slice AC (few s).costs.length cC)).setCell ⟨w.heap.size, 2, none⟩ (.slice AU (few s).ups.length cU)).setCell ⟨w.heap.size, 3, none⟩ (.slice AI (few s).infos.length cI)) := ⟨_, rfl⟩
  have T3 := Lib.hid (show Bx w4 w.heap.size 26 #[.int .i64 (few s).id, .slice AC (few s).costs.length cC, .slice AU (few s).ups.length cU, .slice AI (few s).infos.length cI] by rw [hw4]; exact Bx.set4 T0_w3.out)
  have V3 := Lib.hid (show Bx w4 w1.heap.size 29 #[.int .i64 v.r, .int .i64 v.c, .int .i64 v.b, .int .i64 v.p] by rw [hw4]; exact (((VB_w3.out.other (Nat.ne_of_gt hne.out) 0 _).other (Nat.ne_of_gt hne.out) 1 _).other (Nat.ne_of_gt hne.out) 2 _).other (Nat.ne_of_gt hne.out) 3 _)
  have B3 : Below w.heap.size w w4 := by rw [hw4]; exact below4 B_w3 (Nat.le_refl _) _ _ _ _
  have A3 := Lib.hid (Arg.new hS B3 hk)
  have z3 : w.heap.size < w4.heap.size := T3.out.lt
  have z4 : w1.heap.size < w4.heap.size := V3.out.lt
  rw [← hw4]
  have hArg := Lib.hid (show ∀ W, Below w.heap.size w W → Arg W (few s) AC cC AU cU AI cI from fun W hb => Arg.new hS hb hk)
  clear hw4 S_w3 T0_w3 VB_w3 B_w3 z0_w3 z1_w3 hS hk
  generalize few s = f at *
  cases hok : f.ok with
  | false =>
    replace hok := Lib.hid hok
    have o_T_0 := T3.out.c (i := 0) rfl
    have o_T_1 := T3.out.c (i := 1) rfl
    have o_T_2 := T3.out.c (i := 2) rfl
    have o_T_3 := T3.out.c (i := 3) rfl
    go_wp2_with fail
    clear o_T_0 o_T_1 o_T_2 o_T_3
    go_at_call 8
    (with_reducible refine (C.root_no hok.out A3.out).mono ?_)
    rintro e w5 ⟨rfl, hb5⟩
    have T_w5 := Lib.hid (T3.out.below hb5)
    have A_w5 := Lib.hid (A3.out.below hb5)
    have VB_w5 := Lib.hid (V3.out.below hb5)
    have z0_w5 : w.heap.size < w5.heap.size := Nat.lt_of_lt_of_le z3 hb5.size
    have z1_w5 : w1.heap.size < w5.heap.size := Nat.lt_of_lt_of_le z4 hb5.size
    have B_w5 := bt B3 hb5
    clear T3 A3 V3 z3 z4 B3 hb5
    go_wp2_with fail
    obtain ⟨w6, hw6⟩ : ∃ W, W = w5.alloc (.cells #[.int .i64 0, .int .i64 0, .int .i64 0, .int .i64 0] 29) := ⟨_, rfl⟩
    have bw6 : Below w5.heap.size w5 w6 := by rw [hw6]; exact (Below.refl _ _).alloc (Nat.le_refl _) _
    have Xw6 : Bx w6 w5.heap.size 29 #[.int .i64 0, .int .i64 0, .int .i64 0, .int .i64 0] := by rw [hw6]; exact Bx.new _ _ _ rfl
    rw [← hw6]
    clear hw6
    have T_w6 := Lib.hid (T_w5.out.below bw6)
    have A_w6 := Lib.hid (A_w5.out.below bw6)
    have VB_w6 := Lib.hid (VB_w5.out.below bw6)
    have BV_w6 := Lib.hid (Xw6)
    have z0_w6 : w.heap.size < w6.heap.size := Nat.lt_of_lt_of_le z0_w5 bw6.size
    have z1_w6 : w1.heap.size < w6.heap.size := Nat.lt_of_lt_of_le z1_w5 bw6.size
    have B_w6 := bt B_w5 bw6
    clear T_w5 A_w5 VB_w5 z0_w5 z1_w5 B_w5 bw6
    have z2_w6 : w5.heap.size < w6.heap.size := Xw6.lt
    clear Xw6
    go_at_call 13
    (with_reducible refine (alive_any C _).mono ?_)
    rintro e w7 ⟨rfl, hb7⟩
    have T_w7 := Lib.hid (T_w6.out.below hb7)
    have A_w7 := Lib.hid (A_w6.out.below hb7)
    have VB_w7 := Lib.hid (VB_w6.out.below hb7)
    have BV_w7 := Lib.hid (BV_w6.out.below hb7)
    have z0_w7 : w.heap.size < w7.heap.size := Nat.lt_of_lt_of_le z0_w6 hb7.size
    have z1_w7 : w1.heap.size < w7.heap.size := Nat.lt_of_lt_of_le z1_w6 hb7.size
    have z2_w7 : w5.heap.size < w7.heap.size := Nat.lt_of_lt_of_le z2_w6 hb7.size
    have B_w7 := bt B_w6 hb7
    clear T_w6 A_w6 VB_w6 BV_w6 z0_w6 z1_w6 z2_w6 B_w6 hb7
    go_wp2_with fail
    go_ret
    exact ⟨rfl, B_w7⟩
  | true =>
    obtain ⟨hid, hlen, hl2, hl3⟩ := ok_lens hok
    have hutok := tells_ok hok (p := 0) (by omega)
    obtain ⟨u, hu⟩ : ∃ v, f.tells 0 = v := ⟨_, rfl⟩
    rw [show f.tells (0 : Nat) = u from hu] at hutok
    obtain ⟨ri, hri⟩ : ∃ n, f.rootI = n := ⟨_, rfl⟩
    have hn0 : ((f.infos.length : Int) == 0) = false := by have : (f.infos.length : Int) ≠ 0 := by omega
                                                           simpa using this
    have hi2 : (f.ups.length : Int) = (f.infos.length : Int) := by omega
    obtain ⟨q, hq⟩ : ∃ q, p.tmod (f.infos.length : Int) = q := ⟨_, rfl⟩
    have hq1 : -(f.infos.length : Int) < q ∧ q < (f.infos.length : Int) := by
      have := Int.natAbs_tmod p (f.infos.length : Int)
      have h3 : (p.tmod (f.infos.length : Int)).natAbs < ((f.infos.length : Int)).natAbs := by rw [this]; exact Nat.mod_lt _ (by omega)
      rw [hq] at h3
      omega
    obtain ⟨j, hj⟩ : ∃ j : Nat, (q + (f.infos.length : Int)).tmod (f.infos.length : Int) = (j : Int) := ⟨((q + (f.infos.length : Int)).tmod (f.infos.length : Int)).toNat, (Int.toNat_of_nonneg (Int.tmod_nonneg _ (by omega))).symm⟩
    have hjl : j < f.infos.length := by have := Int.tmod_lt_of_pos (q + (f.infos.length : Int)) (b := (f.infos.length : Int)) (by omega); omega
    have hju : j < f.ups.length := by omega
    have hjc : j < f.costs.length := by omega
    have v1 : IntKind.i64.wrap q = q := IntWalk.i64_in _ (by omega)
    have v2 : IntKind.i64.wrap (q + (f.infos.length : Int)) = q + (f.infos.length : Int) := IntWalk.i64_in _ (by omega)
    have v3 : IntKind.i64.wrap (j : Int) = (j : Int) := IntWalk.i64_in _ (by omega)
    have hnz : (f.infos.length : Int) ≠ 0 := by omega
    replace hok := Lib.hid hok
    replace hu := Lib.hid hu
    replace hri := Lib.hid hri
    replace hl2 := Lib.hid hl2
    replace hl3 := Lib.hid hl3
    replace hlen := Lib.hid hlen
    replace hutok := Lib.hid hutok
    replace hq1 := Lib.hid hq1
    clear hid
    have o_T_0 := T3.out.c (i := 0) rfl
    have o_T_1 := T3.out.c (i := 1) rfl
    have o_T_2 := T3.out.c (i := 2) rfl
    have o_T_3 := T3.out.c (i := 3) rfl
    go_wp2_with fail
    clear o_T_0 o_T_1 o_T_2 o_T_3
    go_at_call 8
    (with_reducible refine (root_ok_to C hok.out hu.out hri.out A3.out).mono ?_)
    rintro e w5 ⟨rfl, hb5⟩
    have T_w5 := Lib.hid (T3.out.below hb5)
    have A_w5 := Lib.hid (A3.out.below hb5)
    have VB_w5 := Lib.hid (V3.out.below hb5)
    have z0_w5 : w.heap.size < w5.heap.size := Nat.lt_of_lt_of_le z3 hb5.size
    have z1_w5 : w1.heap.size < w5.heap.size := Nat.lt_of_lt_of_le z4 hb5.size
    have B_w5 := bt B3 hb5
    clear T3 A3 V3 z3 z4 B3 hb5
    have o_T_0 := T_w5.out.c (i := 0) rfl
    have o_T_1 := T_w5.out.c (i := 1) rfl
    have o_T_2 := T_w5.out.c (i := 2) rfl
    have o_T_3 := T_w5.out.c (i := 3) rfl
    go_upto_region 7 with fail
    clear o_T_0 o_T_1 o_T_2 o_T_3
    have hnb := Lib.hid (show w.heap.size < w5.heap.size from z0_w5)
    obtain ⟨w6, hw6⟩ : ∃ W, W = w5.alloc (.cells #[.int .i64 u.r, .int .i64 u.c, .int .i64 u.b, .int .i64 u.p] 29) := ⟨_, rfl⟩
    have bw6 : Below w5.heap.size w5 w6 := by rw [hw6]; exact (Below.refl _ _).alloc (Nat.le_refl _) _
    have Xw6 : Bx w6 w5.heap.size 29 #[.int .i64 u.r, .int .i64 u.c, .int .i64 u.b, .int .i64 u.p] := by rw [hw6]; exact Bx.new _ _ _ rfl
    rw [← hw6]
    clear hw6
    have T_w6 := Lib.hid (T_w5.out.below bw6)
    have A_w6 := Lib.hid (A_w5.out.below bw6)
    have VB_w6 := Lib.hid (VB_w5.out.below bw6)
    have BV_w6 := Lib.hid (Xw6)
    have z0_w6 : w.heap.size < w6.heap.size := Nat.lt_of_lt_of_le z0_w5 bw6.size
    have z1_w6 : w1.heap.size < w6.heap.size := Nat.lt_of_lt_of_le z1_w5 bw6.size
    have B_w6 := bt B_w5 bw6
    clear T_w5 A_w5 VB_w5 z0_w5 z1_w5 B_w5 bw6
    have z2_w6 : w5.heap.size < w6.heap.size := Xw6.lt
    clear Xw6
    clear hi2
    have K_T_0 := cell_regrown (T_w6.out.c (i := 0) rfl)
    have K_T_1 := cell_regrown (T_w6.out.c (i := 1) rfl)
    have K_T_2 := cell_regrown (T_w6.out.c (i := 2) rfl)
    have K_T_3 := cell_regrown (T_w6.out.c (i := 3) rfl)
    refine wp_region_quiet_below (by kernel_rfl) (by kernel_rfl) ?_
    repeat (first | go_big_quiet_step (fail) | quiet_step (fail))
    refine wpQuiet_nil ?_
    intro _ hw'
    obtain ⟨⟨dq, osq⟩, hw''⟩ := hw'
    subst hw''
    have hqw7 := below_regrown w6 dq osq
    clear K_T_0 K_T_1 K_T_2 K_T_3
    generalize Go.Sort.grow (redrawn w6 dq) osq = w7 at *
    have T_w7 := Lib.hid (T_w6.out.below hqw7)
    have A_w7 := Lib.hid (A_w6.out.below hqw7)
    have VB_w7 := Lib.hid (VB_w6.out.below hqw7)
    have BV_w7 := Lib.hid (BV_w6.out.below hqw7)
    have z0_w7 : w.heap.size < w7.heap.size := Nat.lt_of_lt_of_le z0_w6 hqw7.size
    have z1_w7 : w1.heap.size < w7.heap.size := Nat.lt_of_lt_of_le z1_w6 hqw7.size
    have z2_w7 : w5.heap.size < w7.heap.size := Nat.lt_of_lt_of_le z2_w6 hqw7.size
    have B_w7 := bt B_w6 hqw7
    clear T_w6 A_w6 VB_w6 BV_w6 z0_w6 z1_w6 z2_w6 B_w6 hqw7
    clear v1 v2 v3 hq hj hnz hn0
    have hj1 : (j : Int) < (f.ups.length : Int) := by omega
    have hj2 : (j : Int) < (f.infos.length : Int) := by omega
    obtain ⟨bU, oU, rfl, hbU, qU⟩ := BoolP.SlB.at_ A_w7.out.r.ups.sl (up_at hju)
    cases hup : f.up j with
    | false =>
        rw [hup] at qU
        have o_T_0 := T_w7.out.c (i := 0) rfl
        have o_T_1 := T_w7.out.c (i := 1) rfl
        have o_T_2 := T_w7.out.c (i := 2) rfl
        have o_T_3 := T_w7.out.c (i := 3) rfl
        go_wp2_with fail
        clear o_T_0 o_T_1 o_T_2 o_T_3
        go_at_call 13
        (with_reducible refine (alive_any C _).mono ?_)
        rintro e w8 ⟨rfl, hb8⟩
        have T_w8 := Lib.hid (T_w7.out.below hb8)
        have A_w8 := Lib.hid (A_w7.out.below hb8)
        have VB_w8 := Lib.hid (VB_w7.out.below hb8)
        have BV_w8 := Lib.hid (BV_w7.out.below hb8)
        have z0_w8 : w.heap.size < w8.heap.size := Nat.lt_of_lt_of_le z0_w7 hb8.size
        have z1_w8 : w1.heap.size < w8.heap.size := Nat.lt_of_lt_of_le z1_w7 hb8.size
        have z2_w8 : w5.heap.size < w8.heap.size := Nat.lt_of_lt_of_le z2_w7 hb8.size
        have B_w8 := bt B_w7 hb8
        clear T_w7 A_w7 VB_w7 BV_w7 z0_w7 z1_w7 z2_w7 B_w7 hb8
        go_wp2_with fail
        go_ret
        exact ⟨rfl, B_w8⟩
    | true =>
        rw [hup] at qU
        replace hup := Lib.hid hup
        have o_T_0 := T_w7.out.c (i := 0) rfl
        have o_T_1 := T_w7.out.c (i := 1) rfl
        have o_T_2 := T_w7.out.c (i := 2) rfl
        have o_T_3 := T_w7.out.c (i := 3) rfl
        have o_VB_0 := VB_w7.out.c (i := 0) rfl
        have o_VB_1 := VB_w7.out.c (i := 1) rfl
        have o_VB_2 := VB_w7.out.c (i := 2) rfl
        have o_VB_3 := VB_w7.out.c (i := 3) rfl
        go_wp2_with fail
        clear o_T_0 o_T_1 o_T_2 o_T_3 o_VB_0 o_VB_1 o_VB_2 o_VB_3
        go_at_call 21
        (with_reducible refine (vright_to v _).mono ?_)
        rintro e w8 ⟨rfl, hb8⟩
        have T_w8 := Lib.hid (T_w7.out.below hb8)
        have A_w8 := Lib.hid (A_w7.out.below hb8)
        have VB_w8 := Lib.hid (VB_w7.out.below hb8)
        have BV_w8 := Lib.hid (BV_w7.out.below hb8)
        have z0_w8 : w.heap.size < w8.heap.size := Nat.lt_of_lt_of_le z0_w7 hb8.size
        have z1_w8 : w1.heap.size < w8.heap.size := Nat.lt_of_lt_of_le z1_w7 hb8.size
        have z2_w8 : w5.heap.size < w8.heap.size := Nat.lt_of_lt_of_le z2_w7 hb8.size
        have B_w8 := bt B_w7 hb8
        clear T_w7 A_w7 VB_w7 BV_w7 z0_w7 z1_w7 z2_w7 B_w7 hb8
        clear hbU qU
        cases hvok : v.ok with
        | false =>
            go_wp2_with fail
            go_at_call 13
            (with_reducible refine (alive_any C _).mono ?_)
            rintro e w9 ⟨rfl, hb9⟩
            have T_w9 := Lib.hid (T_w8.out.below hb9)
            have A_w9 := Lib.hid (A_w8.out.below hb9)
            have VB_w9 := Lib.hid (VB_w8.out.below hb9)
            have BV_w9 := Lib.hid (BV_w8.out.below hb9)
            have z0_w9 : w.heap.size < w9.heap.size := Nat.lt_of_lt_of_le z0_w8 hb9.size
            have z1_w9 : w1.heap.size < w9.heap.size := Nat.lt_of_lt_of_le z1_w8 hb9.size
            have z2_w9 : w5.heap.size < w9.heap.size := Nat.lt_of_lt_of_le z2_w8 hb9.size
            have B_w9 := bt B_w8 hb9
            clear T_w8 A_w8 VB_w8 BV_w8 z0_w8 z1_w8 z2_w8 B_w8 hb9
            go_wp2_with fail
            go_ret
            exact ⟨rfl, B_w9⟩
        | true =>
            replace hvok := Lib.hid hvok
            obtain ⟨bI, oI, rfl, hbI, q0, q1, q2, q3, q4, q5⟩ := SlN.at_ A_w8.out.r.infos.sl (info_at hjl)
            have hinf := ok_info hok.out hjc
            obtain ⟨⟨xh, xv, xa⟩, hx⟩ : ∃ x, f.info j = x := ⟨_, rfl⟩
            rw [hx] at q0 q1 q2 q3 q4 q5 hinf
            simp only at q0 q1 q2 q3 q4 q5
            replace hx := Lib.hid hx
            replace hinf := Lib.hid hinf
            cases xh with
            | false =>
                have hbet := Lib.hid (show (f.info j).has = true → v.bet (f.info j).v = true from fun h => by rw [hx.out] at h; cases h)
                have o_T_0 := T_w8.out.c (i := 0) rfl
                have o_T_1 := T_w8.out.c (i := 1) rfl
                have o_T_2 := T_w8.out.c (i := 2) rfl
                have o_T_3 := T_w8.out.c (i := 3) rfl
                go_upto_region 14 with fail
                clear o_T_0 o_T_1 o_T_2 o_T_3
                have htb := tell_better (s := f) hjl hbet.out
                have hnok := tellIt_ok hok.out hjl hup.out hvok.out
                have hntok := tells_ok hnok (p := 0) (by show 0 < f.costs.length; have := hlen.out; omega)
                obtain ⟨nu, hnu⟩ : ∃ x, (f.tellIt j v).tells 0 = x := ⟨_, rfl⟩
                obtain ⟨ni, hni⟩ : ∃ x, (f.tellIt j v).rootI = x := ⟨_, rfl⟩
                rw [hnu, hu.out] at htb
                rw [show (f.tellIt j v).tells (0 : Nat) = nu from hnu] at hntok
                have hsl := Lib.hid A_w8.out.r.infos.sl
                have hl12 := Lib.hid A_w8.out.l
                have hnn : Hid (f.infos.length = (f.infos.map N.cells).length) := Lib.hid (List.length_map ..).symm
                have hn1 : Hid (([] : List (List Value)).length + (f.infos.map N.cells).length ≤ 1000000) := Lib.hid (by have := A_w8.out.l.2.2; simp; omega)
                have hnil := Lib.hid A_w8.out.r.infos.nil
                replace htb := Lib.hid htb
                replace hnok := Lib.hid hnok
                replace hntok := Lib.hid hntok
                replace hnu := Lib.hid hnu
                replace hni := Lib.hid hni
                obtain ⟨Wm, hWm⟩ : ∃ W, W = w8.alloc (.cells #[] 49) := ⟨_, rfl⟩
                have Om := Lib.hid (show OwnN Wm w8.heap.size (.slice (some ⟨w8.heap.size, 0, none⟩) 0 0) [] by rw [hWm]; exact ownN_made w8)
                have bm : Below w8.heap.size w8 Wm := by rw [hWm]; exact (Below.refl _ _).alloc (Nat.le_refl _) _
                have slm := Lib.hid (Sl.below hsl.out bm)
                have Tm := Lib.hid (T_w8.out.below bm)
                obtain ⟨t0, t1, t2, t3⟩ := Bx.four Tm.out
                have hbm : Hid (w8.heap.size ≤ Wm.heap.size) := Lib.hid bm.size
                replace bm := Lib.hid bm
                clear hsl A_w8
                have o_T_0 := T_w8.out.c (i := 0) rfl
                have o_T_1 := T_w8.out.c (i := 1) rfl
                have o_T_2 := T_w8.out.c (i := 2) rfl
                have o_T_3 := T_w8.out.c (i := 3) rfl
                go_upto_region 15 with (at_builtin; (rw [← hWm]; refine wpList_append_sl rfl (.tmp 98) (.tmp 100) 24 rfl elN (by rfl) Om.out (by rfl) hnn.out slm.out (wholeN f.infos) hnil.out hn1.out hbm.out ?_; intro va wa own9 grow9 hloc9; rw [List.map_nil, List.nil_append] at own9; obtain ⟨A9, c9, hv9, _⟩ := own9.form; rw [List.length_map] at hv9; subst hv9; have bT := Lib.hid (bm.out.trans ((show Below w8.heap.size Wm Wm from Below.refl _ _).grown grow9 hbm.out (fun k hk => (Om.out.lt k hk).1))); have ownA := Lib.hid own9; have Ta := Lib.hid (T_w8.out.below bT.out); clear t0 t1 t2 t3; obtain ⟨t0, t1, t2, t3⟩ := Bx.four Ta.out; have f3 := Ta.out.f 3; clear own9 grow9 hloc9 slm Tm hbm Om))
                clear o_T_0 o_T_1 o_T_2 o_T_3
                clear t0 t1 t2 t3 f3
                obtain ⟨wb, hwb⟩ : ∃ W, W = wa.setCell ⟨w.heap.size, 3, none⟩ (.slice A9 f.infos.length c9) := ⟨_, rfl⟩
                have ownb := (show OwnN wb w8.heap.size (.slice A9 f.infos.length c9) f.infos by rw [hwb]; exact OwnN.cell ownA.out z0_w8 3 _)
                have Tb := Lib.hid (show Bx wb w.heap.size 26 #[.int .i64 f.id, .slice AC f.costs.length cC, .slice (some ⟨bU, oU, none⟩) f.ups.length cU, .slice A9 f.infos.length c9] by rw [hwb]; exact Ta.out.set 3 _)
                have Vb := Lib.hid (show Bx wb w1.heap.size 29 #[.int .i64 v.r, .int .i64 v.c, .int .i64 v.b, .int .i64 v.p] by rw [hwb]; exact (VB_w8.out.below bT.out).other (Nat.ne_of_gt hne.out) 3 _)
                have Ub := Lib.hid (show Bx wb w5.heap.size 29 #[.int .i64 u.r, .int .i64 u.c, .int .i64 u.b, .int .i64 u.p] by rw [hwb]; exact (BV_w8.out.below bT.out).other (Nat.ne_of_gt hnb.out) 3 _)
                have Bb : Below w.heap.size w wb := by rw [hwb]; exact (bt B_w8 bT.out).setCell (Nat.le_refl _) _
                have slb := Own.sl ownb (by decide)
                rw [← hwb]
                obtain ⟨g9, rfl, hg1, hg2, _, _, hc9, hfz, hrow⟩ := OwnN.put ownb hjl ⟨true, v, 0⟩
                obtain ⟨g8, o8, e8, _, q0, q1, q2, q3, q4, q5⟩ := SlN.at_ slb (getElem?_info hjl)
                obtain ⟨rfl, rfl⟩ : g9 = g8 ∧ 0 = o8 := by simpa using e8
                simp only [Nat.zero_add] at q0 q1 q2 q3 q4 q5
                have f0 := hfz 0 (by decide)
                rw [Nat.add_zero] at f0
                have f1 := hfz 1 (by decide)
                have f2 := hfz 2 (by decide)
                have f3 := hfz 3 (by decide)
                have f4 := hfz 4 (by decide)
                have f5 := hfz 5 (by decide)
                obtain ⟨t0, t1, t2, t3⟩ := Bx.four Tb.out
                obtain ⟨x0, x1, x2, x3⟩ := Bx.four Vb.out
                have zT := Lib.hid (Nat.lt_of_lt_of_le z0_w8 hg1)
                have zV := Lib.hid (Nat.lt_of_lt_of_le z1_w8 hg1)
                have zU := Lib.hid (Nat.lt_of_lt_of_le z2_w8 hg1)
                replace Bb := Lib.hid Bb
                replace hrow := Lib.hid hrow
                replace hc9 := Lib.hid hc9
                clear hwb ownb slb hfz e8 hg1 hg2 ownA Ta bT
                go_upto_region 16 with fail
                obtain ⟨wc, hwc⟩ : ∃ W, W = put6 wb g9 (j * 6) ⟨true, v, 0⟩ := ⟨_, rfl⟩
                have Tc := Lib.hid (show Bx wc w.heap.size 26 #[.int .i64 f.id, .slice AC f.costs.length cC, .slice (some ⟨bU, oU, none⟩) f.ups.length cU, .slice (some ⟨g9, 0, none⟩) f.infos.length c9] by rw [hwc]; exact Bx.put6 Tb.out zT.out _)
                have Uc := Lib.hid (show Bx wc w5.heap.size 29 #[.int .i64 u.r, .int .i64 u.c, .int .i64 u.b, .int .i64 u.p] by rw [hwc]; exact Bx.put6 Ub.out zU.out _)
                have Bc : Below w.heap.size w wc := by rw [hwc]; exact below_put6 Bb.out (Nat.le_of_lt zT.out) _
                have Ac := Lib.hid (show Arg wc (f.tellIt j v) AC cC (some ⟨bU, oU, none⟩) cU (some ⟨g9, 0, none⟩) c9 from ⟨⟨(hArg.out wc Bc).r.costs, (hArg.out wc Bc).r.ups, by
                  rw [hwc]
                  have h9 := hrow.out
                  exact ⟨rfl, h9.sl, by have := h9.cap; show (f.infos.set j ⟨true, v, 0⟩).length ≤ c9; rw [List.length_set]; exact this, h9.nil⟩⟩, ⟨hl12.out.1, hl12.out.2.1, by show (f.infos.set j ⟨true, v, 0⟩).length ≤ 1000; rw [List.length_set]; exact hl12.out.2.2⟩, ⟨(hArg.out wc Bc).c.1, (hArg.out wc Bc).c.2.1, hc9.out⟩⟩)
                simp only [put6] at hwc
                rw [← hwc]
                have z7 : w.heap.size < wc.heap.size := Tc.out.lt
                have z8 : w5.heap.size < wc.heap.size := Uc.out.lt
                clear hwc q0 q1 q2 q3 q4 q5 f0 f1 f2 f3 f4 f5 t0 t1 t2 t3 x0 x1 x2 x3 Tb Vb Ub Bb zT zV zU hrow
                have o_T_0 := Tc.out.c (i := 0) rfl
                have o_T_1 := Tc.out.c (i := 1) rfl
                have o_T_2 := Tc.out.c (i := 2) rfl
                have o_T_3 := Tc.out.c (i := 3) rfl
                go_wp2_with fail
                clear o_T_0 o_T_1 o_T_2 o_T_3
                go_at_call 8
                (with_reducible refine (root_told C hnok.out hnu.out hni.out Ac.out).mono ?_)
                rintro e w9 ⟨rfl, hb9⟩
                have T_w9 := Lib.hid (Tc.out.below hb9)
                have U_w9 := Lib.hid (Uc.out.below hb9)
                have z0_w9 : w.heap.size < w9.heap.size := Nat.lt_of_lt_of_le z7 hb9.size
                have z1_w9 : w5.heap.size < w9.heap.size := Nat.lt_of_lt_of_le z8 hb9.size
                have B_w9 := bt Bc hb9
                clear Tc Uc z7 z8 Bc hb9
                go_wp2_with fail
                obtain ⟨w10, hw10⟩ : ∃ W, W = w9.alloc (.cells #[.int .i64 nu.r, .int .i64 nu.c, .int .i64 nu.b, .int .i64 nu.p] 29) := ⟨_, rfl⟩
                have bw10 : Below w9.heap.size w9 w10 := by rw [hw10]; exact (Below.refl _ _).alloc (Nat.le_refl _) _
                have Xw10 : Bx w10 w9.heap.size 29 #[.int .i64 nu.r, .int .i64 nu.c, .int .i64 nu.b, .int .i64 nu.p] := by rw [hw10]; exact Bx.new _ _ _ rfl
                rw [← hw10]
                clear hw10
                have T_w10 := Lib.hid (T_w9.out.below bw10)
                have U_w10 := Lib.hid (U_w9.out.below bw10)
                have NV_w10 := Lib.hid (Xw10)
                have z0_w10 : w.heap.size < w10.heap.size := Nat.lt_of_lt_of_le z0_w9 bw10.size
                have z1_w10 : w5.heap.size < w10.heap.size := Nat.lt_of_lt_of_le z1_w9 bw10.size
                have B_w10 := bt B_w9 bw10
                clear T_w9 U_w9 z0_w9 z1_w9 B_w9 bw10
                have z2_w10 : w9.heap.size < w10.heap.size := Xw10.lt
                clear Xw10
                go_at_call 13
                (with_reducible refine (alive_any C _).mono ?_)
                rintro e w11 ⟨rfl, hb11⟩
                have T_w11 := Lib.hid (T_w10.out.below hb11)
                have U_w11 := Lib.hid (U_w10.out.below hb11)
                have NV_w11 := Lib.hid (NV_w10.out.below hb11)
                have z0_w11 : w.heap.size < w11.heap.size := Nat.lt_of_lt_of_le z0_w10 hb11.size
                have z1_w11 : w5.heap.size < w11.heap.size := Nat.lt_of_lt_of_le z1_w10 hb11.size
                have z2_w11 : w9.heap.size < w11.heap.size := Nat.lt_of_lt_of_le z2_w10 hb11.size
                have B_w11 := bt B_w10 hb11
                clear T_w10 U_w10 NV_w10 z0_w10 z1_w10 z2_w10 B_w10 hb11
                have o_U_0 := U_w11.out.c (i := 0) rfl
                have o_U_1 := U_w11.out.c (i := 1) rfl
                have o_U_2 := U_w11.out.c (i := 2) rfl
                have o_U_3 := U_w11.out.c (i := 3) rfl
                have o_NV_0 := NV_w11.out.c (i := 0) rfl
                have o_NV_1 := NV_w11.out.c (i := 1) rfl
                have o_NV_2 := NV_w11.out.c (i := 2) rfl
                have o_NV_3 := NV_w11.out.c (i := 3) rfl
                go_wp2_with fail
                clear o_U_0 o_U_1 o_U_2 o_U_3 o_NV_0 o_NV_1 o_NV_2 o_NV_3
                go_at_call 20
                (with_reducible refine (better_to hutok.out hntok.out htb.out _).mono ?_)
                rintro e w12 ⟨rfl, hb12⟩
                have T_w12 := Lib.hid (T_w11.out.below hb12)
                have U_w12 := Lib.hid (U_w11.out.below hb12)
                have NV_w12 := Lib.hid (NV_w11.out.below hb12)
                have z0_w12 : w.heap.size < w12.heap.size := Nat.lt_of_lt_of_le z0_w11 hb12.size
                have z1_w12 : w5.heap.size < w12.heap.size := Nat.lt_of_lt_of_le z1_w11 hb12.size
                have z2_w12 : w9.heap.size < w12.heap.size := Nat.lt_of_lt_of_le z2_w11 hb12.size
                have B_w12 := bt B_w11 hb12
                clear T_w11 U_w11 NV_w11 z0_w11 z1_w11 z2_w11 B_w11 hb12
                go_wp2_with fail
                go_ret
                exact ⟨rfl, B_w12⟩
            | true =>
                obtain ⟨_, hxo⟩ := hinf.out.2.1 rfl
                replace hxo := Lib.hid hxo
                have hbet0 := fun (h : v.bet xv = true) => Lib.hid (show (f.info j).has = true → v.bet (f.info j).v = true from fun _ => by rw [hx.out]; exact h)
                cases hbv : v.bet xv with
                | false =>
                    clear hbet0
                    replace hbv := Lib.hid hbv
                    have o_T_0 := T_w8.out.c (i := 0) rfl
                    have o_T_1 := T_w8.out.c (i := 1) rfl
                    have o_T_2 := T_w8.out.c (i := 2) rfl
                    have o_T_3 := T_w8.out.c (i := 3) rfl
                    go_upto_region 11 with fail
                    clear o_T_0 o_T_1 o_T_2 o_T_3
                    have K_q1 := cell_regrown q1
                    have K_q2 := cell_regrown q2
                    have K_q3 := cell_regrown q3
                    have K_q4 := cell_regrown q4
                    clear q0 q1 q2 q3 q4 q5 hbI
                    have K_T_0 := cell_regrown (T_w8.out.c (i := 0) rfl)
                    have K_T_1 := cell_regrown (T_w8.out.c (i := 1) rfl)
                    have K_T_2 := cell_regrown (T_w8.out.c (i := 2) rfl)
                    have K_T_3 := cell_regrown (T_w8.out.c (i := 3) rfl)
                    have K_VB_0 := cell_regrown (VB_w8.out.c (i := 0) rfl)
                    have K_VB_1 := cell_regrown (VB_w8.out.c (i := 1) rfl)
                    have K_VB_2 := cell_regrown (VB_w8.out.c (i := 2) rfl)
                    have K_VB_3 := cell_regrown (VB_w8.out.c (i := 3) rfl)
                    have cC0 := fun (d : Nat) (os : Array Obj) => Calls.regrown_of (better_to hvok.out hxo.out hbv.out (Go.Sort.grow (redrawn w8 d) os))
                    refine wp_region_quiet_below (by kernel_rfl) (by kernel_rfl) ?_
                    repeat (first | go_big_quiet_step (with_reducible exact cC0 _ _) | quiet_step (with_reducible exact cC0 _ _))
                    refine wpQuiet_nil ?_
                    intro _ hw'
                    obtain ⟨⟨dq, osq⟩, hw''⟩ := hw'
                    subst hw''
                    have hqw9 := below_regrown w8 dq osq
                    clear K_T_0 K_T_1 K_T_2 K_T_3 K_VB_0 K_VB_1 K_VB_2 K_VB_3 cC0
                    generalize Go.Sort.grow (redrawn w8 dq) osq = w9 at *
                    have T_w9 := Lib.hid (T_w8.out.below hqw9)
                    have A_w9 := Lib.hid (A_w8.out.below hqw9)
                    have VB_w9 := Lib.hid (VB_w8.out.below hqw9)
                    have BV_w9 := Lib.hid (BV_w8.out.below hqw9)
                    have z0_w9 : w.heap.size < w9.heap.size := Nat.lt_of_lt_of_le z0_w8 hqw9.size
                    have z1_w9 : w1.heap.size < w9.heap.size := Nat.lt_of_lt_of_le z1_w8 hqw9.size
                    have z2_w9 : w5.heap.size < w9.heap.size := Nat.lt_of_lt_of_le z2_w8 hqw9.size
                    have B_w9 := bt B_w8 hqw9
                    clear T_w8 A_w8 VB_w8 BV_w8 z0_w8 z1_w8 z2_w8 B_w8 hqw9
                    clear K_q1 K_q2 K_q3 K_q4
                    go_wp2_with fail
                    go_at_call 13
                    (with_reducible refine (alive_any C _).mono ?_)
                    rintro e w10 ⟨rfl, hb10⟩
                    have T_w10 := Lib.hid (T_w9.out.below hb10)
                    have A_w10 := Lib.hid (A_w9.out.below hb10)
                    have VB_w10 := Lib.hid (VB_w9.out.below hb10)
                    have BV_w10 := Lib.hid (BV_w9.out.below hb10)
                    have z0_w10 : w.heap.size < w10.heap.size := Nat.lt_of_lt_of_le z0_w9 hb10.size
                    have z1_w10 : w1.heap.size < w10.heap.size := Nat.lt_of_lt_of_le z1_w9 hb10.size
                    have z2_w10 : w5.heap.size < w10.heap.size := Nat.lt_of_lt_of_le z2_w9 hb10.size
                    have B_w10 := bt B_w9 hb10
                    clear T_w9 A_w9 VB_w9 BV_w9 z0_w9 z1_w9 z2_w9 B_w9 hb10
                    go_wp2_with fail
                    go_ret
                    exact ⟨rfl, B_w10⟩
                | true =>
                    have hbet := hbet0 hbv
                    clear hbet0
                    replace hbv := Lib.hid hbv
                    have o_T_0 := T_w8.out.c (i := 0) rfl
                    have o_T_1 := T_w8.out.c (i := 1) rfl
                    have o_T_2 := T_w8.out.c (i := 2) rfl
                    have o_T_3 := T_w8.out.c (i := 3) rfl
                    go_upto_region 11 with fail
                    clear o_T_0 o_T_1 o_T_2 o_T_3
                    have K_q1 := cell_regrown q1
                    have K_q2 := cell_regrown q2
                    have K_q3 := cell_regrown q3
                    have K_q4 := cell_regrown q4
                    clear q0 q1 q2 q3 q4 q5 hbI
                    have K_T_0 := cell_regrown (T_w8.out.c (i := 0) rfl)
                    have K_T_1 := cell_regrown (T_w8.out.c (i := 1) rfl)
                    have K_T_2 := cell_regrown (T_w8.out.c (i := 2) rfl)
                    have K_T_3 := cell_regrown (T_w8.out.c (i := 3) rfl)
                    have K_VB_0 := cell_regrown (VB_w8.out.c (i := 0) rfl)
                    have K_VB_1 := cell_regrown (VB_w8.out.c (i := 1) rfl)
                    have K_VB_2 := cell_regrown (VB_w8.out.c (i := 2) rfl)
                    have K_VB_3 := cell_regrown (VB_w8.out.c (i := 3) rfl)
                    have cC0 := fun (d : Nat) (os : Array Obj) => Calls.regrown_of (better_to hvok.out hxo.out hbv.out (Go.Sort.grow (redrawn w8 d) os))
                    refine wp_region_quiet_below (by kernel_rfl) (by kernel_rfl) ?_
                    repeat (first | go_big_quiet_step (with_reducible exact cC0 _ _) | quiet_step (with_reducible exact cC0 _ _))
                    refine wpQuiet_nil ?_
                    intro _ hw'
                    obtain ⟨⟨dq, osq⟩, hw''⟩ := hw'
                    subst hw''
                    have hqw9 := below_regrown w8 dq osq
                    clear K_T_0 K_T_1 K_T_2 K_T_3 K_VB_0 K_VB_1 K_VB_2 K_VB_3 cC0
                    generalize Go.Sort.grow (redrawn w8 dq) osq = w9 at *
                    have T_w9 := Lib.hid (T_w8.out.below hqw9)
                    have A_w9 := Lib.hid (A_w8.out.below hqw9)
                    have VB_w9 := Lib.hid (VB_w8.out.below hqw9)
                    have BV_w9 := Lib.hid (BV_w8.out.below hqw9)
                    have z0_w9 : w.heap.size < w9.heap.size := Nat.lt_of_lt_of_le z0_w8 hqw9.size
                    have z1_w9 : w1.heap.size < w9.heap.size := Nat.lt_of_lt_of_le z1_w8 hqw9.size
                    have z2_w9 : w5.heap.size < w9.heap.size := Nat.lt_of_lt_of_le z2_w8 hqw9.size
                    have B_w9 := bt B_w8 hqw9
                    clear T_w8 A_w8 VB_w8 BV_w8 z0_w8 z1_w8 z2_w8 B_w8 hqw9
                    clear K_q1 K_q2 K_q3 K_q4
                    have o_T_0 := T_w9.out.c (i := 0) rfl
                    have o_T_1 := T_w9.out.c (i := 1) rfl
                    have o_T_2 := T_w9.out.c (i := 2) rfl
                    have o_T_3 := T_w9.out.c (i := 3) rfl
                    go_upto_region 14 with fail
                    clear o_T_0 o_T_1 o_T_2 o_T_3
                    have htb := tell_better (s := f) hjl hbet.out
                    have hnok := tellIt_ok hok.out hjl hup.out hvok.out
                    have hntok := tells_ok hnok (p := 0) (by show 0 < f.costs.length; have := hlen.out; omega)
                    obtain ⟨nu, hnu⟩ : ∃ x, (f.tellIt j v).tells 0 = x := ⟨_, rfl⟩
                    obtain ⟨ni, hni⟩ : ∃ x, (f.tellIt j v).rootI = x := ⟨_, rfl⟩
                    rw [hnu, hu.out] at htb
                    rw [show (f.tellIt j v).tells (0 : Nat) = nu from hnu] at hntok
                    have hsl := Lib.hid A_w9.out.r.infos.sl
                    have hl12 := Lib.hid A_w9.out.l
                    have hnn : Hid (f.infos.length = (f.infos.map N.cells).length) := Lib.hid (List.length_map ..).symm
                    have hn1 : Hid (([] : List (List Value)).length + (f.infos.map N.cells).length ≤ 1000000) := Lib.hid (by have := A_w9.out.l.2.2; simp; omega)
                    have hnil := Lib.hid A_w9.out.r.infos.nil
                    replace htb := Lib.hid htb
                    replace hnok := Lib.hid hnok
                    replace hntok := Lib.hid hntok
                    replace hnu := Lib.hid hnu
                    replace hni := Lib.hid hni
                    obtain ⟨Wm, hWm⟩ : ∃ W, W = w9.alloc (.cells #[] 49) := ⟨_, rfl⟩
                    have Om := Lib.hid (show OwnN Wm w9.heap.size (.slice (some ⟨w9.heap.size, 0, none⟩) 0 0) [] by rw [hWm]; exact ownN_made w9)
                    have bm : Below w9.heap.size w9 Wm := by rw [hWm]; exact (Below.refl _ _).alloc (Nat.le_refl _) _
                    have slm := Lib.hid (Sl.below hsl.out bm)
                    have Tm := Lib.hid (T_w9.out.below bm)
                    obtain ⟨t0, t1, t2, t3⟩ := Bx.four Tm.out
                    have hbm : Hid (w9.heap.size ≤ Wm.heap.size) := Lib.hid bm.size
                    replace bm := Lib.hid bm
                    clear hsl A_w9
                    have o_T_0 := T_w9.out.c (i := 0) rfl
                    have o_T_1 := T_w9.out.c (i := 1) rfl
                    have o_T_2 := T_w9.out.c (i := 2) rfl
                    have o_T_3 := T_w9.out.c (i := 3) rfl
                    go_upto_region 15 with (at_builtin; (rw [← hWm]; refine wpList_append_sl rfl (.tmp 98) (.tmp 100) 24 rfl elN (by rfl) Om.out (by rfl) hnn.out slm.out (wholeN f.infos) hnil.out hn1.out hbm.out ?_; intro va wa own9 grow9 hloc9; rw [List.map_nil, List.nil_append] at own9; obtain ⟨A9, c9, hv9, _⟩ := own9.form; rw [List.length_map] at hv9; subst hv9; have bT := Lib.hid (bm.out.trans ((show Below w9.heap.size Wm Wm from Below.refl _ _).grown grow9 hbm.out (fun k hk => (Om.out.lt k hk).1))); have ownA := Lib.hid own9; have Ta := Lib.hid (T_w9.out.below bT.out); clear t0 t1 t2 t3; obtain ⟨t0, t1, t2, t3⟩ := Bx.four Ta.out; have f3 := Ta.out.f 3; clear own9 grow9 hloc9 slm Tm hbm Om))
                    clear o_T_0 o_T_1 o_T_2 o_T_3
                    clear t0 t1 t2 t3 f3
                    obtain ⟨wb, hwb⟩ : ∃ W, W = wa.setCell ⟨w.heap.size, 3, none⟩ (.slice A9 f.infos.length c9) := ⟨_, rfl⟩
                    have ownb := (show OwnN wb w9.heap.size (.slice A9 f.infos.length c9) f.infos by rw [hwb]; exact OwnN.cell ownA.out z0_w9 3 _)
                    have Tb := Lib.hid (show Bx wb w.heap.size 26 #[.int .i64 f.id, .slice AC f.costs.length cC, .slice (some ⟨bU, oU, none⟩) f.ups.length cU, .slice A9 f.infos.length c9] by rw [hwb]; exact Ta.out.set 3 _)
                    have Vb := Lib.hid (show Bx wb w1.heap.size 29 #[.int .i64 v.r, .int .i64 v.c, .int .i64 v.b, .int .i64 v.p] by rw [hwb]; exact (VB_w9.out.below bT.out).other (Nat.ne_of_gt hne.out) 3 _)
                    have Ub := Lib.hid (show Bx wb w5.heap.size 29 #[.int .i64 u.r, .int .i64 u.c, .int .i64 u.b, .int .i64 u.p] by rw [hwb]; exact (BV_w9.out.below bT.out).other (Nat.ne_of_gt hnb.out) 3 _)
                    have Bb : Below w.heap.size w wb := by rw [hwb]; exact (bt B_w9 bT.out).setCell (Nat.le_refl _) _
                    have slb := Own.sl ownb (by decide)
                    rw [← hwb]
                    obtain ⟨g9, rfl, hg1, hg2, _, _, hc9, hfz, hrow⟩ := OwnN.put ownb hjl ⟨true, v, 0⟩
                    obtain ⟨g8, o8, e8, _, q0, q1, q2, q3, q4, q5⟩ := SlN.at_ slb (getElem?_info hjl)
                    obtain ⟨rfl, rfl⟩ : g9 = g8 ∧ 0 = o8 := by simpa using e8
                    simp only [Nat.zero_add] at q0 q1 q2 q3 q4 q5
                    have f0 := hfz 0 (by decide)
                    rw [Nat.add_zero] at f0
                    have f1 := hfz 1 (by decide)
                    have f2 := hfz 2 (by decide)
                    have f3 := hfz 3 (by decide)
                    have f4 := hfz 4 (by decide)
                    have f5 := hfz 5 (by decide)
                    obtain ⟨t0, t1, t2, t3⟩ := Bx.four Tb.out
                    obtain ⟨x0, x1, x2, x3⟩ := Bx.four Vb.out
                    have zT := Lib.hid (Nat.lt_of_lt_of_le z0_w9 hg1)
                    have zV := Lib.hid (Nat.lt_of_lt_of_le z1_w9 hg1)
                    have zU := Lib.hid (Nat.lt_of_lt_of_le z2_w9 hg1)
                    replace Bb := Lib.hid Bb
                    replace hrow := Lib.hid hrow
                    replace hc9 := Lib.hid hc9
                    clear hwb ownb slb hfz e8 hg1 hg2 ownA Ta bT
                    go_upto_region 16 with fail
                    obtain ⟨wc, hwc⟩ : ∃ W, W = put6 wb g9 (j * 6) ⟨true, v, 0⟩ := ⟨_, rfl⟩
                    have Tc := Lib.hid (show Bx wc w.heap.size 26 #[.int .i64 f.id, .slice AC f.costs.length cC, .slice (some ⟨bU, oU, none⟩) f.ups.length cU, .slice (some ⟨g9, 0, none⟩) f.infos.length c9] by rw [hwc]; exact Bx.put6 Tb.out zT.out _)
                    have Uc := Lib.hid (show Bx wc w5.heap.size 29 #[.int .i64 u.r, .int .i64 u.c, .int .i64 u.b, .int .i64 u.p] by rw [hwc]; exact Bx.put6 Ub.out zU.out _)
                    have Bc : Below w.heap.size w wc := by rw [hwc]; exact below_put6 Bb.out (Nat.le_of_lt zT.out) _
                    have Ac := Lib.hid (show Arg wc (f.tellIt j v) AC cC (some ⟨bU, oU, none⟩) cU (some ⟨g9, 0, none⟩) c9 from ⟨⟨(hArg.out wc Bc).r.costs, (hArg.out wc Bc).r.ups, by
                      rw [hwc]
                      have h9 := hrow.out
                      exact ⟨rfl, h9.sl, by have := h9.cap; show (f.infos.set j ⟨true, v, 0⟩).length ≤ c9; rw [List.length_set]; exact this, h9.nil⟩⟩, ⟨hl12.out.1, hl12.out.2.1, by show (f.infos.set j ⟨true, v, 0⟩).length ≤ 1000; rw [List.length_set]; exact hl12.out.2.2⟩, ⟨(hArg.out wc Bc).c.1, (hArg.out wc Bc).c.2.1, hc9.out⟩⟩)
                    simp only [put6] at hwc
                    rw [← hwc]
                    have z7 : w.heap.size < wc.heap.size := Tc.out.lt
                    have z8 : w5.heap.size < wc.heap.size := Uc.out.lt
                    clear hwc q0 q1 q2 q3 q4 q5 f0 f1 f2 f3 f4 f5 t0 t1 t2 t3 x0 x1 x2 x3 Tb Vb Ub Bb zT zV zU hrow
                    have o_T_0 := Tc.out.c (i := 0) rfl
                    have o_T_1 := Tc.out.c (i := 1) rfl
                    have o_T_2 := Tc.out.c (i := 2) rfl
                    have o_T_3 := Tc.out.c (i := 3) rfl
                    go_wp2_with fail
                    clear o_T_0 o_T_1 o_T_2 o_T_3
                    go_at_call 8
                    (with_reducible refine (root_told C hnok.out hnu.out hni.out Ac.out).mono ?_)
                    rintro e w10 ⟨rfl, hb10⟩
                    have T_w10 := Lib.hid (Tc.out.below hb10)
                    have U_w10 := Lib.hid (Uc.out.below hb10)
                    have z0_w10 : w.heap.size < w10.heap.size := Nat.lt_of_lt_of_le z7 hb10.size
                    have z1_w10 : w5.heap.size < w10.heap.size := Nat.lt_of_lt_of_le z8 hb10.size
                    have B_w10 := bt Bc hb10
                    clear Tc Uc z7 z8 Bc hb10
                    go_wp2_with fail
                    obtain ⟨w11, hw11⟩ : ∃ W, W = w10.alloc (.cells #[.int .i64 nu.r, .int .i64 nu.c, .int .i64 nu.b, .int .i64 nu.p] 29) := ⟨_, rfl⟩
                    have bw11 : Below w10.heap.size w10 w11 := by rw [hw11]; exact (Below.refl _ _).alloc (Nat.le_refl _) _
                    have Xw11 : Bx w11 w10.heap.size 29 #[.int .i64 nu.r, .int .i64 nu.c, .int .i64 nu.b, .int .i64 nu.p] := by rw [hw11]; exact Bx.new _ _ _ rfl
                    rw [← hw11]
                    clear hw11
                    have T_w11 := Lib.hid (T_w10.out.below bw11)
                    have U_w11 := Lib.hid (U_w10.out.below bw11)
                    have NV_w11 := Lib.hid (Xw11)
                    have z0_w11 : w.heap.size < w11.heap.size := Nat.lt_of_lt_of_le z0_w10 bw11.size
                    have z1_w11 : w5.heap.size < w11.heap.size := Nat.lt_of_lt_of_le z1_w10 bw11.size
                    have B_w11 := bt B_w10 bw11
                    clear T_w10 U_w10 z0_w10 z1_w10 B_w10 bw11
                    have z2_w11 : w10.heap.size < w11.heap.size := Xw11.lt
                    clear Xw11
                    go_at_call 13
                    (with_reducible refine (alive_any C _).mono ?_)
                    rintro e w12 ⟨rfl, hb12⟩
                    have T_w12 := Lib.hid (T_w11.out.below hb12)
                    have U_w12 := Lib.hid (U_w11.out.below hb12)
                    have NV_w12 := Lib.hid (NV_w11.out.below hb12)
                    have z0_w12 : w.heap.size < w12.heap.size := Nat.lt_of_lt_of_le z0_w11 hb12.size
                    have z1_w12 : w5.heap.size < w12.heap.size := Nat.lt_of_lt_of_le z1_w11 hb12.size
                    have z2_w12 : w10.heap.size < w12.heap.size := Nat.lt_of_lt_of_le z2_w11 hb12.size
                    have B_w12 := bt B_w11 hb12
                    clear T_w11 U_w11 NV_w11 z0_w11 z1_w11 z2_w11 B_w11 hb12
                    have o_U_0 := U_w12.out.c (i := 0) rfl
                    have o_U_1 := U_w12.out.c (i := 1) rfl
                    have o_U_2 := U_w12.out.c (i := 2) rfl
                    have o_U_3 := U_w12.out.c (i := 3) rfl
                    have o_NV_0 := NV_w12.out.c (i := 0) rfl
                    have o_NV_1 := NV_w12.out.c (i := 1) rfl
                    have o_NV_2 := NV_w12.out.c (i := 2) rfl
                    have o_NV_3 := NV_w12.out.c (i := 3) rfl
                    go_wp2_with fail
                    clear o_U_0 o_U_1 o_U_2 o_U_3 o_NV_0 o_NV_1 o_NV_2 o_NV_3
                    go_at_call 20
                    (with_reducible refine (better_to hutok.out hntok.out htb.out _).mono ?_)
                    rintro e w13 ⟨rfl, hb13⟩
                    have T_w13 := Lib.hid (T_w12.out.below hb13)
                    have U_w13 := Lib.hid (U_w12.out.below hb13)
                    have NV_w13 := Lib.hid (NV_w12.out.below hb13)
                    have z0_w13 : w.heap.size < w13.heap.size := Nat.lt_of_lt_of_le z0_w12 hb13.size
                    have z1_w13 : w5.heap.size < w13.heap.size := Nat.lt_of_lt_of_le z1_w12 hb13.size
                    have z2_w13 : w10.heap.size < w13.heap.size := Nat.lt_of_lt_of_le z2_w12 hb13.size
                    have B_w13 := bt B_w12 hb13
                    clear T_w12 U_w12 NV_w12 z0_w12 z1_w12 z2_w12 B_w12 hb13
                    go_wp2_with fail
                    go_ret
                    exact ⟨rfl, B_w13⟩
end Go.Proofs.Ytdnpcpehjjildaa.RoleP
