/-
  Contract of footwayref11: Tell.
-/
import Derived.Test.YtidoaccidmmalaaRoleV
namespace Go.Proofs.Ytidoaccidmmalaa.RoleP
open Go.RowKit Go.Sort Go.Proofs.Ytidoaccidmmalaa.SliceP Go.Proofs.Ytidoaccidmmalaa.BoxP Go.Proofs.Ytidoaccidmmalaa.VecP
open Go.Proofs.Ytidoaccidmmalaa.IntP (RowI SlI OwnI)
open Go.Proofs.Ytidoaccidmmalaa.BoolP (RowB SlB)
set_option linter.unusedVariables false
set_option maxRecDepth 100000
abbrev cg (v : V) (a : Int) : Value := .agg #[.int .i64 v.r, .int .i64 v.c, .int .i64 v.b, .int .i64 v.p, .int .i64 a]
theorem Bx.set5 {w : World} {b : Nat} {T : TypeId} {v0 v1 v2 v3 v4 u0 u1 u2 u3 u4 : Value} (h : Bx w b T #[v0, v1, v2, v3, v4]) : Bx (((((w.setCell ⟨b, 0, none⟩ u0).setCell ⟨b, 1, none⟩ u1).setCell ⟨b, 2, none⟩ u2).setCell ⟨b, 3, none⟩ u3).setCell ⟨b, 4, none⟩ u4) b T #[u0, u1, u2, u3, u4] := ((((h.set 0 u0).set 1 u1).set 2 u2).set 3 u3).set 4 u4
theorem below5 {n b : Nat} {w0 w : World} (h : Below n w0 w) (hb : n ≤ b) (v0 v1 v2 v3 v4 : Value) : Below n w0 (((((w.setCell ⟨b, 0, none⟩ v0).setCell ⟨b, 1, none⟩ v1).setCell ⟨b, 2, none⟩ v2).setCell ⟨b, 3, none⟩ v3).setCell ⟨b, 4, none⟩ v4) := ((((h.setCell hb _).setCell hb _).setCell hb _).setCell hb _).setCell hb _
def S.told (s : S) (p : Nat) (most : Int) : V := if s.tell p most = true then s.tells p else V0
def S.toldAge (s : S) (p : Nat) (most : Int) : Int := if s.tell p most = true then s.age else 0
set_option maxHeartbeats 16000000 in
theorem r_tell {s : S} {AC : Option Addr} {cC : Nat} {AU : Option Addr} {cU : Nat} {AI : Option Addr} {cI : Nat} {w : World} (hF : Fit s) (hS : SelfR w s AC cC AU cU AI cI) {p : Nat} (hp : p < s.costs.length) (most : Int) :
    Calls Try.prog 57 #[selfV s.id (.slice AC s.costs.length cC) (.slice AU s.ups.length cU) (.slice AI s.infos.length cI), .int .i64 p, .int .i64 most] w fun e w' => e = .returned (.tuple #[cg (s.told p most) (s.toldAge p most), .bool (s.tell p most)]) ∧ Below w.heap.size w w' := by
  obtain ⟨w0, hw0⟩ : ∃ W, W = (w.alloc (.cells #[.int .i64 s.id, .slice AC s.costs.length cC, .slice AU s.ups.length cU, .slice AI s.infos.length cI] 26)).alloc (.cells #[.int .i64 0, .int .i64 0, .int .i64 0, .int .i64 0, .int .i64 0] 33) := ⟨_, rfl⟩
  have I := Lib.hid (show InS w w0 s AC cC AU cU AI cI by rw [hw0]; exact (InS.new hS).below ((Below.refl _ _).alloc (Nat.le_refl _) _))
  have hz0 := I.out.x.lt
  have B0 := I.out.b
  have X := Lib.hid (show Bx w0 (w.heap.size + 1) 33 #[.int .i64 0, .int .i64 0, .int .i64 0, .int .i64 0, .int .i64 0] by rw [hw0]; exact Bx.new _ _ _ (by simp))
  obtain ⟨⟨l1, l2⟩, l3, l4⟩ := hF.len
  have hm4 : s.infos.length ≤ 8 := by omega
  have hl4 := Lib.hid l4
  obtain ⟨r, hr⟩ : ∃ r, s.role p = r := ⟨_, rfl⟩
  obtain ⟨v, hv⟩ : ∃ v, s.tells p = v := ⟨_, rfl⟩
  obtain ⟨ag, hag⟩ : ∃ a, s.age = a := ⟨_, rfl⟩
  have htl : s.tell p most = (decide (r = 1) && decide (ag < most)) := by unfold S.tell; rw [hr, hag]
  unfold S.told S.toldAge
  rw [htl, hv, hag]
  obtain ⟨tb, htb⟩ : ∃ b, (decide (r = 1) && decide (ag < most)) = b := ⟨_, rfl⟩
  rw [htb]
  obtain ⟨tv, htv⟩ : ∃ x, (if tb = true then v else V0) = x := ⟨_, rfl⟩
  obtain ⟨ta, hta⟩ : ∃ x, (if tb = true then ag else 0) = x := ⟨_, rfl⟩
  rw [htv, hta]
  replace htb := Lib.hid htb
  replace htv := Lib.hid htv
  replace hta := Lib.hid hta
  clear htl l1 l2 l3 l4
  replace hr := Lib.hid hr
  replace hv := Lib.hid hv
  replace hF := Lib.hid hF
  clear hS
  cases hrt : s.root with
  | none =>
    have hi := Lib.hid (show s.rootI = -1 by unfold S.rootI; rw [hrt]; rfl)
    obtain rfl : ag = 0 := by rw [← hag]; unfold S.age; rw [hrt]
    replace hrt := Lib.hid hrt
    replace hag := Lib.hid hag
    go_enter Try.func57, Try.ntmps57
    go_wp2_with fail
    rw [← hw0]
    clear hw0
    have o_I_0 := I.out.c (i := 0) rfl
    have o_I_1 := I.out.c (i := 1) rfl
    have o_I_2 := I.out.c (i := 2) rfl
    have o_I_3 := I.out.c (i := 3) rfl
    go_at_call 70
    (with_reducible refine (root_to hF.out I.out.r hi.out).mono ?_)
    rintro e w2 ⟨rfl, hb2⟩
    have I_w2 := Lib.hid (I.out.below hb2)
    have X_w2 := Lib.hid (X.out.below hb2)
    have z0_w2 : w.heap.size < w2.heap.size := Nat.lt_of_lt_of_le hz0 hb2.size
    have B_w2 := bt B0 hb2
    clear I X hz0 B0 hb2
    clear o_I_0 o_I_1 o_I_2 o_I_3
    have o_I_0 := I_w2.out.c (i := 0) rfl
    have o_I_1 := I_w2.out.c (i := 1) rfl
    have o_I_2 := I_w2.out.c (i := 2) rfl
    have o_I_3 := I_w2.out.c (i := 3) rfl
    go_wp2_with fail
    clear o_I_0 o_I_1 o_I_2 o_I_3
    go_at_call 42
    (with_reducible refine (role_to hF.out I_w2.out.r hp hr.out).mono ?_)
    rintro e w3 ⟨rfl, hb3⟩
    have I_w3 := Lib.hid (I_w2.out.below hb3)
    have X_w3 := Lib.hid (X_w2.out.below hb3)
    have z0_w3 : w.heap.size < w3.heap.size := Nat.lt_of_lt_of_le z0_w2 hb3.size
    have B_w3 := bt B_w2 hb3
    clear I_w2 X_w2 z0_w2 B_w2 hb3
    by_cases c1 : r = 1
    · subst c1
      by_cases c2 : (0 : Int) < most
      · have c3 : ¬ most ≤ 0 := by omega
        have e9 := Lib.hid (show tb = true by rw [← htb.out]; simp; omega)
        have o_I_0 := I_w3.out.c (i := 0) rfl
        have o_I_1 := I_w3.out.c (i := 1) rfl
        have o_I_2 := I_w3.out.c (i := 2) rfl
        have o_I_3 := I_w3.out.c (i := 3) rfl
        go_wp2_with fail
        clear o_I_0 o_I_1 o_I_2 o_I_3
        go_at_call 71
        (with_reducible refine (tells_to hF.out I_w3.out.r hv.out).mono ?_)
        rintro e w4 ⟨rfl, hb4⟩
        have I_w4 := Lib.hid (I_w3.out.below hb4)
        have X_w4 := Lib.hid (X_w3.out.below hb4)
        have z0_w4 : w.heap.size < w4.heap.size := Nat.lt_of_lt_of_le z0_w3 hb4.size
        have B_w4 := bt B_w3 hb4
        clear I_w3 X_w3 z0_w3 B_w3 hb4
        have o_X_0 := X_w4.out.c (i := 0) rfl
        have o_X_1 := X_w4.out.c (i := 1) rfl
        have o_X_2 := X_w4.out.c (i := 2) rfl
        have o_X_3 := X_w4.out.c (i := 3) rfl
        have o_X_4 := X_w4.out.c (i := 4) rfl
        have p_X_0 := X_w4.out.f 0
        have p_X_1 := X_w4.out.f 1
        have p_X_2 := X_w4.out.f 2
        have p_X_3 := X_w4.out.f 3
        have p_X_4 := X_w4.out.f 4
        have hxl := X_w4.out.lt
        go_wp2_with fail
        refine bodyPost_ret (v := .tuple #[cg v 0, .bool true]) (by simp [results, Try.results57, go_sem, o_X_0, o_X_1, o_X_2, o_X_3, o_X_4]) rfl ⟨by rw [e9.out, ← htv.out, ← hta.out, e9.out]; rfl, ?_⟩
        exact below5 B_w4 (by omega) _ _ _ _ _
      · have c3 : most ≤ 0 := by omega
        have e9 := Lib.hid (show tb = false by rw [← htb.out]; simp; omega)
        have o_X_0 := X_w3.out.c (i := 0) rfl
        have o_X_1 := X_w3.out.c (i := 1) rfl
        have o_X_2 := X_w3.out.c (i := 2) rfl
        have o_X_3 := X_w3.out.c (i := 3) rfl
        have o_X_4 := X_w3.out.c (i := 4) rfl
        have p_X_0 := X_w3.out.f 0
        have p_X_1 := X_w3.out.f 1
        have p_X_2 := X_w3.out.f 2
        have p_X_3 := X_w3.out.f 3
        have p_X_4 := X_w3.out.f 4
        have hxl := X_w3.out.lt
        go_wp2_with fail
        refine bodyPost_ret (v := .tuple #[cg V0 0, .bool false]) (by simp [results, Try.results57, go_sem, o_X_0, o_X_1, o_X_2, o_X_3, o_X_4]) rfl ⟨by rw [e9.out, ← htv.out, ← hta.out, e9.out]; rfl, ?_⟩
        exact below5 B_w3 (by omega) _ _ _ _ _
    · have c2 : (r == 1) = false := by simpa using c1
      have e9 := Lib.hid (show tb = false by rw [← htb.out]; simp [c1])
      replace c1 := Lib.hid c1
      have o_X_0 := X_w3.out.c (i := 0) rfl
      have o_X_1 := X_w3.out.c (i := 1) rfl
      have o_X_2 := X_w3.out.c (i := 2) rfl
      have o_X_3 := X_w3.out.c (i := 3) rfl
      have o_X_4 := X_w3.out.c (i := 4) rfl
      have p_X_0 := X_w3.out.f 0
      have p_X_1 := X_w3.out.f 1
      have p_X_2 := X_w3.out.f 2
      have p_X_3 := X_w3.out.f 3
      have p_X_4 := X_w3.out.f 4
      have hxl := X_w3.out.lt
      go_wp2_with fail
      refine bodyPost_ret (v := .tuple #[cg V0 0, .bool false]) (by simp [results, Try.results57, go_sem, o_X_0, o_X_1, o_X_2, o_X_3, o_X_4]) rfl ⟨by rw [e9.out, ← htv.out, ← hta.out, e9.out]; rfl, ?_⟩
      exact below5 B_w3 (by omega) _ _ _ _ _
  | some b =>
    have hi := Lib.hid (show s.rootI = (b : Int) by unfold S.rootI; rw [hrt]; rfl)
    have hb := (root_lt hrt).1
    have hb0 : ¬ (b : Int) < 0 := by omega
    have hb1 : (0 : Int) ≤ (b : Int) := by omega
    have hagb : (s.info b).age + 1 = ag := by rw [← hag]; unfold S.age; rw [hrt]
    have hbd : 0 ≤ (s.info b).age ∧ (s.info b).age ≤ 255 := (ok_info hF.out.ok (by rw [← hl4.out]; exact hb)).1
    obtain ⟨hbd1, hbd2⟩ := hbd
    obtain ⟨bI, oI, rfl, hbI, q0, q1, q2, q3, q4, q5⟩ := SlN.at_ I.out.r.infos.sl (info_at (s := s) (p := b) hb)
    generalize (s.info b).age = x at *
    clear q0 q1 q2 q3 q4
    replace hrt := Lib.hid hrt
    replace hag := Lib.hid hag
    go_enter Try.func57, Try.ntmps57
    go_wp2_with fail
    rw [← hw0]
    clear hw0
    have o_I_0 := I.out.c (i := 0) rfl
    have o_I_1 := I.out.c (i := 1) rfl
    have o_I_2 := I.out.c (i := 2) rfl
    have o_I_3 := I.out.c (i := 3) rfl
    go_at_call 70
    (with_reducible refine (root_to hF.out I.out.r hi.out).mono ?_)
    rintro e w2 ⟨rfl, hb2⟩
    have q6 := (hb2.cell (p := ⟨bI, oI + b * 6 + 5, none⟩) hbI).trans q5
    have hbI' := Nat.lt_of_lt_of_le hbI hb2.size
    clear q5 hbI
    have I_w2 := Lib.hid (I.out.below hb2)
    have X_w2 := Lib.hid (X.out.below hb2)
    have z0_w2 : w.heap.size < w2.heap.size := Nat.lt_of_lt_of_le hz0 hb2.size
    have B_w2 := bt B0 hb2
    clear I X hz0 B0 hb2
    clear o_I_0 o_I_1 o_I_2 o_I_3
    have o_I_0 := I_w2.out.c (i := 0) rfl
    have o_I_1 := I_w2.out.c (i := 1) rfl
    have o_I_2 := I_w2.out.c (i := 2) rfl
    have o_I_3 := I_w2.out.c (i := 3) rfl
    go_wp2_with fail
    clear o_I_0 o_I_1 o_I_2 o_I_3
    go_at_call 42
    (with_reducible refine (role_to hF.out I_w2.out.r hp hr.out).mono ?_)
    rintro e w3 ⟨rfl, hb3⟩
    have I_w3 := Lib.hid (I_w2.out.below hb3)
    have X_w3 := Lib.hid (X_w2.out.below hb3)
    have z0_w3 : w.heap.size < w3.heap.size := Nat.lt_of_lt_of_le z0_w2 hb3.size
    have B_w3 := bt B_w2 hb3
    clear I_w2 X_w2 z0_w2 B_w2 hb3
    by_cases c1 : r = 1
    · subst c1
      by_cases c2 : ag < most
      · have c3 : ¬ most ≤ ag := by omega
        have e9 := Lib.hid (show tb = true by rw [← htb.out]; simp; omega)
        have o_I_0 := I_w3.out.c (i := 0) rfl
        have o_I_1 := I_w3.out.c (i := 1) rfl
        have o_I_2 := I_w3.out.c (i := 2) rfl
        have o_I_3 := I_w3.out.c (i := 3) rfl
        go_wp2_with fail
        clear o_I_0 o_I_1 o_I_2 o_I_3
        go_at_call 71
        (with_reducible refine (tells_to hF.out I_w3.out.r hv.out).mono ?_)
        rintro e w4 ⟨rfl, hb4⟩
        have I_w4 := Lib.hid (I_w3.out.below hb4)
        have X_w4 := Lib.hid (X_w3.out.below hb4)
        have z0_w4 : w.heap.size < w4.heap.size := Nat.lt_of_lt_of_le z0_w3 hb4.size
        have B_w4 := bt B_w3 hb4
        clear I_w3 X_w3 z0_w3 B_w3 hb4
        have o_X_0 := X_w4.out.c (i := 0) rfl
        have o_X_1 := X_w4.out.c (i := 1) rfl
        have o_X_2 := X_w4.out.c (i := 2) rfl
        have o_X_3 := X_w4.out.c (i := 3) rfl
        have o_X_4 := X_w4.out.c (i := 4) rfl
        have p_X_0 := X_w4.out.f 0
        have p_X_1 := X_w4.out.f 1
        have p_X_2 := X_w4.out.f 2
        have p_X_3 := X_w4.out.f 3
        have p_X_4 := X_w4.out.f 4
        have hxl := X_w4.out.lt
        go_wp2_with fail
        refine bodyPost_ret (v := .tuple #[cg v ag, .bool true]) (by simp [results, Try.results57, go_sem, o_X_0, o_X_1, o_X_2, o_X_3, o_X_4]) rfl ⟨by rw [e9.out, ← htv.out, ← hta.out, e9.out]; rfl, ?_⟩
        exact below5 B_w4 (by omega) _ _ _ _ _
      · have c3 : most ≤ ag := by omega
        have e9 := Lib.hid (show tb = false by rw [← htb.out]; simp; omega)
        have o_X_0 := X_w3.out.c (i := 0) rfl
        have o_X_1 := X_w3.out.c (i := 1) rfl
        have o_X_2 := X_w3.out.c (i := 2) rfl
        have o_X_3 := X_w3.out.c (i := 3) rfl
        have o_X_4 := X_w3.out.c (i := 4) rfl
        have p_X_0 := X_w3.out.f 0
        have p_X_1 := X_w3.out.f 1
        have p_X_2 := X_w3.out.f 2
        have p_X_3 := X_w3.out.f 3
        have p_X_4 := X_w3.out.f 4
        have hxl := X_w3.out.lt
        go_wp2_with fail
        refine bodyPost_ret (v := .tuple #[cg V0 0, .bool false]) (by simp [results, Try.results57, go_sem, o_X_0, o_X_1, o_X_2, o_X_3, o_X_4]) rfl ⟨by rw [e9.out, ← htv.out, ← hta.out, e9.out]; rfl, ?_⟩
        exact below5 B_w3 (by omega) _ _ _ _ _
    · have c2 : (r == 1) = false := by simpa using c1
      have e9 := Lib.hid (show tb = false by rw [← htb.out]; simp [c1])
      replace c1 := Lib.hid c1
      have o_X_0 := X_w3.out.c (i := 0) rfl
      have o_X_1 := X_w3.out.c (i := 1) rfl
      have o_X_2 := X_w3.out.c (i := 2) rfl
      have o_X_3 := X_w3.out.c (i := 3) rfl
      have o_X_4 := X_w3.out.c (i := 4) rfl
      have p_X_0 := X_w3.out.f 0
      have p_X_1 := X_w3.out.f 1
      have p_X_2 := X_w3.out.f 2
      have p_X_3 := X_w3.out.f 3
      have p_X_4 := X_w3.out.f 4
      have hxl := X_w3.out.lt
      go_wp2_with fail
      refine bodyPost_ret (v := .tuple #[cg V0 0, .bool false]) (by simp [results, Try.results57, go_sem, o_X_0, o_X_1, o_X_2, o_X_3, o_X_4]) rfl ⟨by rw [e9.out, ← htv.out, ← hta.out, e9.out]; rfl, ?_⟩
      exact below5 B_w3 (by omega) _ _ _ _ _
end Go.Proofs.Ytidoaccidmmalaa.RoleP
