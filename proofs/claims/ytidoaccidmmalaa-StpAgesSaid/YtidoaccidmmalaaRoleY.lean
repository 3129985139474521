/-
  Contracts of footwayref11: Tells, Role.
-/
import Derived.Test.YtidoaccidmmalaaRoleX
import Derived.Deep.Cut
namespace Go.Proofs.Ytidoaccidmmalaa.RoleP
open Go.RowKit Go.Sort Go.Proofs.Ytidoaccidmmalaa.SliceP Go.Proofs.Ytidoaccidmmalaa.BoxP Go.Proofs.Ytidoaccidmmalaa.VecP
open Go.Proofs.Ytidoaccidmmalaa.IntP (RowI SlI OwnI)
open Go.Proofs.Ytidoaccidmmalaa.BoolP (RowB SlB)
set_option linter.unusedVariables false
set_option maxRecDepth 100000
section
variable {s : S} {AC : Option Addr} {cC : Nat} {AU : Option Addr} {cU : Nat} {AI : Option Addr} {cI : Nat} {w W : World}
theorem InS.c (h : InS w W s AC cC AU cU AI cI) {i : Nat} {v : Value} (hv : (#[.int .i64 s.id, .slice AC s.costs.length cC, .slice AU s.ups.length cU, .slice AI s.infos.length cI] : Array Value)[i]? = some v) : W.cell? ⟨w.heap.size, i, none⟩ = some v := h.x.c hv
end
abbrev vg (v : V) : Value := .agg #[.int .i64 v.r, .int .i64 v.c, .int .i64 v.b, .int .i64 v.p]
theorem root_to {s : S} {AC : Option Addr} {cC : Nat} {AU : Option Addr} {cU : Nat} {AI : Option Addr} {cI : Nat} {w : World} (hF : Fit s) (hS : SelfR w s AC cC AU cU AI cI) {n : Int} (e : s.rootI = n) :
    Calls Try.prog 70 #[selfV s.id (.slice AC s.costs.length cC) (.slice AU s.ups.length cU) (.slice AI s.infos.length cI)] w fun e w' => e = .returned (.int .i64 n) ∧ Below w.heap.size w w' := by
  have := r_root hF hS
  rwa [e] at this
theorem way_to {s : S} {AC : Option Addr} {cC : Nat} {AU : Option Addr} {cU : Nat} {AI : Option Addr} {cI : Nat} {w : World} (hF : Fit s) (hS : SelfR w s AC cC AU cU AI cI) {p : Nat} (hp : p < s.infos.length) {v : V} (e : s.way p = v) : Calls Try.prog 80 #[selfV s.id (.slice AC s.costs.length cC) (.slice AU s.ups.length cU) (.slice AI s.infos.length cI), .int .i64 p] w fun e w' => e = .returned (vg v) ∧ Below w.heap.size w w' := by
  subst e; exact f_way hF hS hp
set_option maxHeartbeats 16000000 in
theorem r_tells {s : S} {AC : Option Addr} {cC : Nat} {AU : Option Addr} {cU : Nat} {AI : Option Addr} {cI : Nat} {w : World} (hF : Fit s) (hS : SelfR w s AC cC AU cU AI cI) (p : Int) :
    Calls Try.prog 71 #[selfV s.id (.slice AC s.costs.length cC) (.slice AU s.ups.length cU) (.slice AI s.infos.length cI), .int .i64 p] w fun e w' => e = .returned (vg (s.tells p)) ∧ Below w.heap.size w w' := by
  obtain ⟨w0, hw0⟩ : ∃ W, W = (w.alloc (.cells #[.int .i64 s.id, .slice AC s.costs.length cC, .slice AU s.ups.length cU, .slice AI s.infos.length cI] 26)).alloc (.cells #[.int .i64 0, .int .i64 0, .int .i64 0, .int .i64 0] 31) := ⟨_, rfl⟩
  have I := Lib.hid (show InS w w0 s AC cC AU cU AI cI by rw [hw0]; exact (InS.new hS).below ((Below.refl _ _).alloc (Nat.le_refl _) _))
  have hz0 := I.out.x.lt
  have B0 := I.out.b
  have X := Lib.hid (show Bx w0 (w.heap.size + 1) 31 #[.int .i64 0, .int .i64 0, .int .i64 0, .int .i64 0] by rw [hw0]; exact Bx.new _ _ _ (by simp))
  replace hF := Lib.hid hF
  clear hS
  cases hr : s.root with
  | none =>
    have hi := Lib.hid (show s.rootI = -1 by unfold S.rootI; rw [hr]; rfl)
    have e : s.tells p = ⟨s.id, 0, s.id, p⟩ := by unfold S.tells; rw [hr]
    rw [e]
    clear e
    replace hr := Lib.hid hr
    go_enter Try.func71, Try.ntmps71
    go_wp2_with fail
    rw [← hw0]
    clear hw0
    have o_I_0 := I.out.c (i := 0) rfl
    have o_I_1 := I.out.c (i := 1) rfl
    have o_I_2 := I.out.c (i := 2) rfl
    have o_I_3 := I.out.c (i := 3) rfl
    go_at_call 70
    (with_reducible refine (root_to hF.out I.out.r hi.out).mono ?_)
    rintro e w2 ⟨rfl, hb2⟩
    have I_w2 := Lib.hid (I.out.below hb2)
    have X_w2 := Lib.hid (X.out.below hb2)
    have z0_w2 : w.heap.size < w2.heap.size := Nat.lt_of_lt_of_le hz0 hb2.size
    have B_w2 := bt B0 hb2
    clear I X hz0 B0 hb2
    clear o_I_0 o_I_1 o_I_2 o_I_3
    have o_I_0 := I_w2.out.c (i := 0) rfl
    have o_I_1 := I_w2.out.c (i := 1) rfl
    have o_I_2 := I_w2.out.c (i := 2) rfl
    have o_I_3 := I_w2.out.c (i := 3) rfl
    have o_X_0 := X_w2.out.c (i := 0) rfl
    have o_X_1 := X_w2.out.c (i := 1) rfl
    have o_X_2 := X_w2.out.c (i := 2) rfl
    have o_X_3 := X_w2.out.c (i := 3) rfl
    have p_X_0 := X_w2.out.f 0
    have p_X_1 := X_w2.out.f 1
    have p_X_2 := X_w2.out.f 2
    have p_X_3 := X_w2.out.f 3
    have hxl := X_w2.out.lt
    go_wp2_with fail
    refine bodyPost_ret (v := vg ⟨s.id, 0, s.id, p⟩) (by simp [results, Try.results71, go_sem, o_X_0, o_X_1, o_X_2, o_X_3]) rfl ⟨rfl, ?_⟩
    exact below4 B_w2 (by omega) _ _ _ _
  | some b =>
    have hi := Lib.hid (show s.rootI = (b : Int) by unfold S.rootI; rw [hr]; rfl)
    have hb := (root_lt hr).1
    obtain ⟨v, hv⟩ : ∃ v, s.way b = v := ⟨_, rfl⟩
    have e : s.tells p = ⟨v.r, v.c, s.id, p⟩ := by unfold S.tells; rw [hr, ← hv]
    rw [e]
    have hb0 : ¬ (b : Int) < 0 := by omega
    replace hv := Lib.hid hv
    clear e
    replace hr := Lib.hid hr
    go_enter Try.func71, Try.ntmps71
    go_wp2_with fail
    rw [← hw0]
    clear hw0
    have o_I_0 := I.out.c (i := 0) rfl
    have o_I_1 := I.out.c (i := 1) rfl
    have o_I_2 := I.out.c (i := 2) rfl
    have o_I_3 := I.out.c (i := 3) rfl
    go_at_call 70
    (with_reducible refine (root_to hF.out I.out.r hi.out).mono ?_)
    rintro e w2 ⟨rfl, hb2⟩
    have I_w2 := Lib.hid (I.out.below hb2)
    have X_w2 := Lib.hid (X.out.below hb2)
    have z0_w2 : w.heap.size < w2.heap.size := Nat.lt_of_lt_of_le hz0 hb2.size
    have B_w2 := bt B0 hb2
    clear I X hz0 B0 hb2
    clear o_I_0 o_I_1 o_I_2 o_I_3
    have o_I_0 := I_w2.out.c (i := 0) rfl
    have o_I_1 := I_w2.out.c (i := 1) rfl
    have o_I_2 := I_w2.out.c (i := 2) rfl
    have o_I_3 := I_w2.out.c (i := 3) rfl
    go_wp2_with fail
    clear o_I_0 o_I_1 o_I_2 o_I_3
    go_at_call 80
    (with_reducible refine (way_to hF.out I_w2.out.r hb hv.out).mono ?_)
    rintro e w3 ⟨rfl, hb3⟩
    have I_w3 := Lib.hid (I_w2.out.below hb3)
    have X_w3 := Lib.hid (X_w2.out.below hb3)
    have z0_w3 : w.heap.size < w3.heap.size := Nat.lt_of_lt_of_le z0_w2 hb3.size
    have B_w3 := bt B_w2 hb3
    clear I_w2 X_w2 z0_w2 B_w2 hb3
    have o_I_0 := I_w3.out.c (i := 0) rfl
    have o_I_1 := I_w3.out.c (i := 1) rfl
    have o_I_2 := I_w3.out.c (i := 2) rfl
    have o_I_3 := I_w3.out.c (i := 3) rfl
    have o_X_0 := X_w3.out.c (i := 0) rfl
    have o_X_1 := X_w3.out.c (i := 1) rfl
    have o_X_2 := X_w3.out.c (i := 2) rfl
    have o_X_3 := X_w3.out.c (i := 3) rfl
    have p_X_0 := X_w3.out.f 0
    have p_X_1 := X_w3.out.f 1
    have p_X_2 := X_w3.out.f 2
    have p_X_3 := X_w3.out.f 3
    have hxl := X_w3.out.lt
    go_wp2_with fail
    refine bodyPost_ret (v := vg ⟨v.r, v.c, s.id, p⟩) (by simp [results, Try.results71, go_sem, hxl, o_X_0, o_X_1, o_X_2, o_X_3]) rfl ⟨rfl, ?_⟩
    have b4 := below4 B_w3 (show w.heap.size ≤ w.heap.size + 1 by omega)
    exact (b4 _ _ _ _).alloc (b4 _ _ _ _).size _
end Go.Proofs.Ytidoaccidmmalaa.RoleP
