/-
  fdb.isRight, isBucket.
-/
import Derived.Test.YtnghilcjecjljaaFdbC
namespace Go.Proofs.Ytnghilcjecjljaa.FdbP
open Go.RowKit Go.Sort Go.Proofs.Ytnghilcjecjljaa.SliceP Go.Proofs.Ytnghilcjecjljaa.MacP
set_option linter.unusedVariables false
set_option maxRecDepth 100000

theorem eq_ways (x y : E) : x = y ∨ (decide (x = y) = false ∧ (x.mac == y.mac) = false) ∨ (decide (x = y) = false ∧ (x.mac == y.mac) = true ∧ (x.port == y.port) = false) ∨ (decide (x = y) = false ∧ (x.mac == y.mac) = true ∧ (x.port == y.port) = true ∧ (x.seen == y.seen) = false) ∨
    (decide (x = y) = false ∧ (x.mac == y.mac) = true ∧ (x.port == y.port) = true ∧ (x.seen == y.seen) = true ∧ (x.st == y.st) = false) := by
  obtain ⟨r, c, b, p⟩ := x
  obtain ⟨r2, c2, b2, p2⟩ := y
  simp only [E.mk.injEq, beq_eq_false_iff_ne, beq_iff_eq, ne_eq]
  by_cases h1 : r = r2 <;> by_cases h2 : c = c2 <;> by_cases h3 : b = b2 <;> by_cases h4 : p = p2 <;> simp [h1, h2, h3, h4]
theorem eql_ent (x y : E) (w : World) : (binOp .eql 57 x.val y.val).run Try.prog w = .ok (.bool (decide (x = y))) w := by
  rcases eq_ways x y with rfl | ⟨h, h1⟩ | ⟨h, h1, h2⟩ | ⟨h, h1, h2, h3⟩ | ⟨h, h1, h2, h3, h4⟩
  · go_simp
  all_goals
    go_simp
theorem neq_ent (x y : E) (w : World) : (binOp .neq 57 x.val y.val).run Try.prog w = .ok (.bool (!decide (x = y))) w := by
  rcases eq_ways x y with rfl | ⟨h, h1⟩ | ⟨h, h1, h2⟩ | ⟨h, h1, h2, h3⟩ | ⟨h, h1, h2, h3, h4⟩
  · go_simp
  all_goals
    go_simp

def rightE (x : E) : Bool := (!x.st || x.seen == 0) && (macB x.mac && (portB x.port && timeB x.seen))
set_option maxHeartbeats 2000000 in
theorem isRight_bad (x : E) (w : World) (h1 : x.st = true) (h2 : (x.seen == 0) = false) : Calls Try.prog 66 #[x.val] w fun e w' => e = .returned (.bool false) ∧ Below w.heap.size w w' := by
  obtain ⟨m, p, s, b⟩ := x
  simp only at h1 h2
  subst h1
  have hE : ∀ w, (binOp .neq 57 (ev m p s true) (ev m p 0 true)).run Try.prog w = .ok (.bool true) w := fun w => by
    have := neq_ent ⟨m, p, s, true⟩ ⟨m, p, 0, true⟩ w
    have e : decide ((⟨m, p, s, true⟩ : E) = ⟨m, p, 0, true⟩) = false := by
      rw [decide_eq_false_iff_not]
      intro h
      injection h with _ _ h3 _
      rw [h3] at h2; simp at h2
    rw [e] at this
    exact this
  clear h2
  obtain ⟨w0, hw0⟩ : ∃ w0, w0 = w.alloc (eObj m p s true) := ⟨_, rfl⟩
  have B0 : Below w.heap.size w w0 := by rw [hw0]; exact (Below.refl _ _).alloc (Nat.le_refl _) _
  have X0 : Bx w0 w.heap.size 57 #[.int .i64 m, .int .i64 p, .int .i64 s, .bool true] := by rw [hw0]; exact Bx.new w _ _ rfl
  replace X0 := Lib.hid X0
  go_enter Try.func66, Try.ntmps66
  go_wp2_with fail
  rw [← hw0]
  clear hw0
  have zt := X0.out.lt
  have o_X_0 := X0.out.c (i := 0) rfl
  have o_X_1 := X0.out.c (i := 1) rfl
  have o_X_2 := X0.out.c (i := 2) rfl
  have o_X_3 := X0.out.c (i := 3) rfl
  go_wp2_with fail
  have K_o_X_0 := cell_regrown o_X_0
  have K_o_X_1 := cell_regrown o_X_1
  have K_o_X_2 := cell_regrown o_X_2
  have K_o_X_3 := cell_regrown o_X_3
  clear o_X_0 o_X_1 o_X_2 o_X_3
  have cC0 := fun (d : Nat) (os : Array Obj) => Calls.regrown_of (pin_any m p (Go.Sort.grow (redrawn w0 d) os))
  refine wp_region_quiet_below (by kernel_rfl) (by kernel_rfl) ?_
  repeat (first | go_big_quiet_step (with_reducible exact cC0 _ _) | quiet_step (with_reducible exact cC0 _ _))
  refine wpQuiet_nil ?_
  intro _ hw'
  obtain ⟨⟨dq, osq⟩, hw''⟩ := hw'
  subst hw''
  have hb1 := below_regrown w0 dq osq
  clear K_o_X_0 K_o_X_1 K_o_X_2 K_o_X_3 cC0
  generalize Go.Sort.grow (redrawn w0 dq) osq = w1 at *
  have X_w1 := Lib.hid (X0.out.below hb1)
  have B_w1 := bt B0 hb1
  clear X0 B0 hb1
  clear zt
  go_wp2_with fail
  go_ret
  exact ⟨rfl, B_w1⟩
set_option maxHeartbeats 2000000 in
theorem isRight_good (x : E) (w : World) (h1 : (!x.st || x.seen == 0) = true) : Calls Try.prog 66 #[x.val] w fun e w' => e = .returned (.bool (macB x.mac && (portB x.port && timeB x.seen))) ∧ Below w.heap.size w w' := by
  obtain ⟨m, p, s, b⟩ := x
  simp only at h1 ⊢
  obtain ⟨w0, hw0⟩ : ∃ w0, w0 = w.alloc (eObj m p s b) := ⟨_, rfl⟩
  have B0 : Below w.heap.size w w0 := by rw [hw0]; exact (Below.refl _ _).alloc (Nat.le_refl _) _
  have X0 : Bx w0 w.heap.size 57 #[.int .i64 m, .int .i64 p, .int .i64 s, .bool b] := by rw [hw0]; exact Bx.new w _ _ rfl
  replace X0 := Lib.hid X0
  have hE : ∀ w, (binOp .neq 57 (ev m p s b) (ev m p 0 true)).run Try.prog w = .ok (.bool (!b)) w := fun w => by
    have := neq_ent ⟨m, p, s, b⟩ ⟨m, p, 0, true⟩ w
    have e : decide ((⟨m, p, s, b⟩ : E) = ⟨m, p, 0, true⟩) = b := by
      cases b
      · rw [decide_eq_false_iff_not]
        intro h
        injection h with _ _ _ h4
        cases h4
      · have e : s = 0 := by simpa using h1
        rw [e]; simp
    rw [e] at this
    exact this
  clear h1
  cases hm : macB m
  all_goals cases hp : portB p
  all_goals cases ht : timeB s
  all_goals cases b
  all_goals
    replace hm := Lib.hid hm
    replace hp := Lib.hid hp
    replace ht := Lib.hid ht
    go_enter Try.func66, Try.ntmps66
    go_wp2_with fail
    rw [← hw0]
    clear hw0
    simp only [Bool.not_true, Bool.not_false] at hE
    have o_X_0 := X0.out.c (i := 0) rfl
    have o_X_1 := X0.out.c (i := 1) rfl
    have o_X_2 := X0.out.c (i := 2) rfl
    have o_X_3 := X0.out.c (i := 3) rfl
    go_wp2_with fail
    have K_o_X_0 := cell_regrown o_X_0
    have K_o_X_1 := cell_regrown o_X_1
    have K_o_X_2 := cell_regrown o_X_2
    have K_o_X_3 := cell_regrown o_X_3
    clear o_X_0 o_X_1 o_X_2 o_X_3
    have cC0 := fun (d : Nat) (os : Array Obj) => Calls.regrown_of (pin_any m p (Go.Sort.grow (redrawn w0 d) os))
    refine wp_region_quiet_below (by kernel_rfl) (by kernel_rfl) ?_
    repeat (first | go_big_quiet_step (with_reducible exact cC0 _ _) | quiet_step (with_reducible exact cC0 _ _))
    refine wpQuiet_nil ?_
    intro _ hw'
    obtain ⟨⟨dq, osq⟩, hw''⟩ := hw'
    subst hw''
    have hb1 := below_regrown w0 dq osq
    clear K_o_X_0 K_o_X_1 K_o_X_2 K_o_X_3 cC0
    generalize Go.Sort.grow (redrawn w0 dq) osq = w1 at *
    have X_w1 := Lib.hid (X0.out.below hb1)
    have B_w1 := bt B0 hb1
    clear X0 B0 hb1
    have o_X_0 := X_w1.out.c (i := 0) rfl
    have o_X_1 := X_w1.out.c (i := 1) rfl
    have o_X_2 := X_w1.out.c (i := 2) rfl
    have o_X_3 := X_w1.out.c (i := 3) rfl
    go_wp2_with fail
    go_at_call 33
    (with_reducible refine (station_is m _ _ hm.out).mono ?_)
    rintro e w9 ⟨rfl, rfl⟩
    go_wp2_with fail
    try (go_at_call 34; (with_reducible refine (port_is p _ _ hp.out).mono ?_); rintro e w9 ⟨rfl, rfl⟩; go_wp2_with fail)
    try clear o_X_0 o_X_1 o_X_2 o_X_3
    first
      | (go_at_call 35
         (with_reducible refine (time_is s _ _ ht.out).mono ?_)
         rintro e w9 ⟨rfl, hb9⟩
         have B9 := bt B_w1 hb9
         clear hb9
         go_wp2_with fail
         go_ret
         exact ⟨rfl, B9⟩)
      | (go_ret; exact ⟨rfl, B_w1⟩)
theorem isRight_is (x : E) (w : World) (r : Bool) (hr : rightE x = r) : Calls Try.prog 66 #[x.val] w fun e w' => e = .returned (.bool r) ∧ Below w.heap.size w w' := by
  subst hr
  unfold rightE
  cases h : (!x.st || x.seen == 0)
  · rw [Bool.or_eq_false_iff] at h
    exact isRight_bad x w (by simpa using h.1) h.2
  · exact isRight_good x w h
theorem rightE_mac {x : E} (h : rightE x = true) : 0 ≤ x.mac ∧ x.mac < 281474976710656 := by
  unfold rightE at h
  simp only [Bool.and_eq_true] at h
  exact macB_ad h.2.1
theorem rightE_time {x : E} (h : rightE x = true) : 0 ≤ x.seen ∧ x.seen ≤ 1099511627776 := by
  unfold rightE at h
  simp only [Bool.and_eq_true] at h
  exact timeB_iff.1 h.2.2.2
end Go.Proofs.Ytnghilcjecjljaa.FdbP
