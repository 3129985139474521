/-
  Contracts of role's own small functions: told (both ways), isVecBetter, portOf, isInfo.
-/
import Derived.Test.YtidoaccidmmalaaRoleU
namespace Go.Proofs.Ytidoaccidmmalaa.RoleP
open Go.RowKit Go.Sort Go.Proofs.Ytidoaccidmmalaa.SliceP Go.Proofs.Ytidoaccidmmalaa.BoxP Go.Proofs.Ytidoaccidmmalaa.VecP
open Go.Proofs.Ytidoaccidmmalaa.IntP (RowI SlI OwnI)
open Go.Proofs.Ytidoaccidmmalaa.BoolP (RowB SlB)
set_option linter.unusedVariables false
set_option maxRecDepth 100000
/-- A way by a port. -/
abbrev pw (n : Int) (v : V) (a : Int) : Value := .agg #[.int .i64 n, .int .i64 v.r, .int .i64 v.c, .int .i64 v.b, .int .i64 v.p, .int .i64 a]
abbrev pwI (n : Int) (v : V) (a : Int) : Value := .iface 118 (pw n v a)
abbrev noI : Value := .iface 116 (.agg #[])
theorem meth_port (v : Value) (w : World) : (method 254 118 v "footway/role.told").run Try.prog w = .ok (102, v) w := by kernel_rfl
theorem meth_none (v : Value) (w : World) : (method 254 116 v "footway/role.told").run Try.prog w = .ok (101, v) w := by kernel_rfl
theorem as_port (v : Value) (w : World) : (Instr.typeAssert (.iface 118 v) 97 118 true).run Try.prog w = .ok (.tuple #[v, .bool true]) w := by kernel_rfl
theorem as_none (v : Value) (w : World) : (Instr.typeAssert (.iface 116 v) 97 118 true).run Try.prog w = .ok (.tuple #[pw 0 V0 0, .bool false]) w := by kernel_rfl
theorem below5' {n b : Nat} {w0 w : World} (h : Below n w0 w) (hb : n ≤ b) (v0 v1 v2 v3 v4 : Value) : Below n w0 (((((w.setCell ⟨b, 0, none⟩ v0).setCell ⟨b, 1, none⟩ v1).setCell ⟨b, 2, none⟩ v2).setCell ⟨b, 3, none⟩ v3).setCell ⟨b, 4, none⟩ v4) := ((((h.setCell hb _).setCell hb _).setCell hb _).setCell hb _).setCell hb _
set_option maxHeartbeats 4000000 in
theorem told_port (n : Int) (v : V) (a id p : Int) (w : World) (h0 : 0 ≤ a) (h1 : a ≤ 255) : Calls Try.prog 102 #[pw n v a, .int .i64 id, .int .i64 p] w fun e w' => e = .returned (cg ⟨v.r, v.c, id, p⟩ (a + 1)) ∧ Below w.heap.size w w' := by
  go_enter Try.func102, Try.ntmps102
  go_wp2_with fail
  refine bodyPost_ret (v := cg ⟨v.r, v.c, id, p⟩ (a + 1)) (by simp [results, Try.results102, go_sem]) rfl ⟨rfl, ?_⟩
  exact ((Below.refl _ _).alloc (Nat.le_refl _) _).alloc (by simp) _
set_option maxHeartbeats 4000000 in
theorem told_none (id p : Int) (w : World) : Calls Try.prog 101 #[.agg #[], .int .i64 id, .int .i64 p] w fun e w' => e = .returned (cg ⟨id, 0, id, p⟩ 0) ∧ Below w.heap.size w w' := by
  go_enter Try.func101, Try.ntmps101
  go_wp2_with fail
  refine bodyPost_ret (v := cg ⟨id, 0, id, p⟩ 0) (by simp [results, Try.results101, go_sem]) rfl ⟨rfl, ?_⟩
  exact ((Below.refl _ _).alloc (Nat.le_refl _) _).alloc (by simp) _
set_option maxHeartbeats 4000000 in
theorem vb_to (x y : V) (b : Bool) (hx : x.ok = true) (hy : y.ok = true) (h : x.bet y = b) (w : World) : Calls Try.prog 79 #[vg x, vg y] w fun e w' => e = .returned (.bool b) ∧ Below w.heap.size w w' := by
  have H := Lib.hid (fun W => better_good x.r x.c x.b x.p y.r y.c y.b y.p W hx hy)
  have hb : betB x.r x.c x.b x.p y.r y.c y.b y.p = b := h
  rw [hb] at H
  clear h hb hx hy
  obtain ⟨w0, hw0⟩ : ∃ W, W = (w.alloc (.cells #[.int .i64 x.r, .int .i64 x.c, .int .i64 x.b, .int .i64 x.p] 31)).alloc (.cells #[.int .i64 y.r, .int .i64 y.c, .int .i64 y.b, .int .i64 y.p] 31) := ⟨_, rfl⟩
  have B := Lib.hid (show Below w.heap.size w w0 by rw [hw0]; exact ((Below.refl _ _).alloc (Nat.le_refl _) _).alloc (by simp) _)
  go_enter Try.func79, Try.ntmps79
  go_wp2_with fail
  rw [← hw0]
  clear hw0
  go_at_call 64
  (with_reducible refine (H.out _).mono ?_)
  rintro e w1 ⟨rfl, hb1⟩
  have B1 := Lib.hid (bt B.out hb1)
  clear B hb1
  go_wp2_with fail
  go_ret
  exact ⟨rfl, B1.out⟩
set_option maxHeartbeats 4000000 in
theorem port_of_port (n : Int) (v : V) (a : Int) (w : World) : Calls Try.prog 59 #[pwI n v a] w fun e w' => e = .returned (.int .i64 n) ∧ Below w.heap.size w w' := by
  have ha := as_port (pw n v a)
  go_enter Try.func59, Try.ntmps59
  go_wp2_with fail
  go_ret
  exact ⟨rfl, (Below.refl _ _).alloc (Nat.le_refl _) _⟩
set_option maxHeartbeats 4000000 in
theorem port_of_none (w : World) : Calls Try.prog 59 #[noI] w fun e w' => e = .returned (.int .i64 (-1)) ∧ Below w.heap.size w w' := by
  have ha := as_none (.agg #[])
  go_enter Try.func59, Try.ntmps59
  go_wp2_with fail
  go_ret
  exact ⟨rfl, Below.refl _ _⟩
set_option maxHeartbeats 8000000 in
theorem o_info (x : N) (up b : Bool) (hk : x.ok up = b) (w : World) : Calls Try.prog 61 #[nv x.has x.v.r x.v.c x.v.b x.v.p x.age, .bool up] w fun e w' => e = .returned (.bool b) ∧ Below w.heap.size w w' := by
  subst hk
  obtain ⟨h, v, a⟩ := x
  have hE : ∀ w, (binOp .eql 66 (nv h v.r v.c v.b v.p a) (nv false 0 0 0 0 0)).run Try.prog w = .ok (.bool (N.zero ⟨h, v, a⟩)) w := fun w => eql_info ⟨h, v, a⟩ w
  have B := Lib.hid ((Below.refl w.heap.size w).alloc (Nat.le_refl _) (.cells #[.bool h, .int .i64 v.r, .int .i64 v.c, .int .i64 v.b, .int .i64 v.p, .int .i64 a] 66))
  cases hu : (h && up) with
  | false =>
    have e : N.ok ⟨h, v, a⟩ up = N.zero ⟨h, v, a⟩ := by unfold N.ok; simp only; rw [hu]; rfl
    rw [e]
    clear e
    generalize N.zero ⟨h, v, a⟩ = z at *
    go_enter Try.func61, Try.ntmps61
    cases h with
    | false =>
      clear hu
      go_wp2_with fail
      go_ret
      exact ⟨rfl, B.out⟩
    | true =>
      obtain rfl : up = false := by simpa using hu
      clear hu
      go_wp2_with fail
      go_ret
      exact ⟨rfl, B.out⟩
  | true =>
    have e : N.ok ⟨h, v, a⟩ up = (v.ok && (decide (0 ≤ a) && decide (a ≤ 255))) := by unfold N.ok; simp only; rw [hu]; rfl
    rw [e]
    rw [Bool.and_eq_true] at hu
    obtain ⟨rfl, rfl⟩ := hu
    clear e hE
    obtain ⟨ok, hok⟩ : ∃ ok, v.ok = ok := ⟨_, rfl⟩
    have hr := Lib.hid (fun W => right_is v.r v.c v.b v.p ok hok W)
    rw [hok]
    clear hok
    obtain ⟨w0, hw0⟩ : ∃ W, W = w.alloc (.cells #[.bool true, .int .i64 v.r, .int .i64 v.c, .int .i64 v.b, .int .i64 v.p, .int .i64 a] 66) := ⟨_, rfl⟩
    have X0 := Lib.hid (show Bx w0 w.heap.size 66 #[.bool true, .int .i64 v.r, .int .i64 v.c, .int .i64 v.b, .int .i64 v.p, .int .i64 a] by rw [hw0]; exact Bx.new _ _ _ rfl)
    rw [← hw0] at B
    have y0 := X0.out.c (i := 0) rfl
    have y1 := X0.out.c (i := 1) rfl
    have y2 := X0.out.c (i := 2) rfl
    have y3 := X0.out.c (i := 3) rfl
    have y4 := X0.out.c (i := 4) rfl
    have y5 := X0.out.c (i := 5) rfl
    have hyl := X0.out.lt
    go_enter Try.func61, Try.ntmps61
    go_wp2_with fail
    rw [← hw0]
    clear hw0
    go_at_call 63
    (with_reducible refine (hr.out _).mono ?_)
    rintro e w1 ⟨rfl, hb1⟩
    have B1 := Lib.hid (bt B.out hb1)
    have z5 := (X0.out.below hb1).c (i := 5) rfl
    have hzl := (X0.out.below hb1).lt
    clear y0 y1 y2 y3 y4 y5 hyl hb1 X0 B hr
    cases ok with
    | false =>
      go_wp2_with fail
      go_ret
      exact ⟨by rfl, B1.out⟩
    | true =>
      cases c1 : decide (0 ≤ a) <;> cases c2 : decide (a ≤ 255)
      all_goals
        go_wp2_with fail
        go_ret
        exact ⟨by rw [c1, c2]; rfl, B1.out⟩
end Go.Proofs.Ytidoaccidmmalaa.RoleP
