/-
  PortTells, by the contracts of port's own functions.
-/
import Derived.Test.YtmgbdpmghbdldaaPortC
namespace Go.Proofs.Ytmgbdpmghbdldaa.PortP
open Go.RowKit Go.Sort Go.Proofs.Ytmgbdpmghbdldaa.BoxP
set_option linter.unusedVariables false
set_option maxRecDepth 100000
set_option maxHeartbeats 64000000 in
theorem tells_any (C : PortC) (s l d : Int) (act : Bool) (w : World) : Calls Try.prog 3 #[sv s l, .int .i64 d, .bool act] w (True1 w) := by
  obtain ⟨b2, h2⟩ : ∃ b, decide (s = 2) = b := ⟨_, rfl⟩
  obtain ⟨b3, h3⟩ : ∃ b, decide (s = 3) = b := ⟨_, rfl⟩
  have h2' : (s == 2) = b2 := by rw [← h2]; by_cases h : s = 2 <;> simp [h]
  have h3' : (s == 3) = b3 := by rw [← h3]; by_cases h : s = 3 <;> simp [h]
  replace h2 := Lib.hid h2
  replace h3 := Lib.hid h3
  go_enter Try.func3, Try.ntmps3
  go_wp2_with fail
  obtain ⟨w1, hw1⟩ : ∃ W, W = w.alloc (.cells #[.int .i64 s, .int .i64 l] 23) := ⟨_, rfl⟩
  have bw1 : Below w.heap.size w w1 := by rw [hw1]; exact (Below.refl _ _).alloc (Nat.le_refl _) _
  have Xw1 : Bx w1 w.heap.size 23 #[.int .i64 s, .int .i64 l] := by rw [hw1]; exact Bx.new _ _ _ rfl
  rw [← hw1]
  clear hw1
  have T0_w1 := Lib.hid (Xw1)
  have z0_w1 : w.heap.size < w1.heap.size := Xw1.lt
  clear Xw1
  cases hok : okS s l d with
  | false =>
    replace hok := Lib.hid hok
    go_at_call 6
    (with_reducible refine (C.role_no _ _ _ _ _ hok.out).mono ?_)
    rintro e w2 ⟨rfl, hb2⟩
    have T0_w2 := Lib.hid (T0_w1.out.below hb2)
    have z0_w2 : w.heap.size < w2.heap.size := Nat.lt_of_lt_of_le z0_w1 hb2.size
    have B_w2 := bt bw1 hb2
    clear T0_w1 z0_w1 bw1 hb2
    have o_T0_0 := T0_w2.out.c (i := 0) rfl
    have o_T0_1 := T0_w2.out.c (i := 1) rfl
    go_wp2_with fail
    clear o_T0_0 o_T0_1
    obtain ⟨w3, hw3⟩ : ∃ W, W = w2.alloc (.cells #[.int .i64 0, .int .i64 0] 23) := ⟨_, rfl⟩
    have bw3 : Below w2.heap.size w2 w3 := by rw [hw3]; exact (Below.refl _ _).alloc (Nat.le_refl _) _
    have Xw3 : Bx w3 w2.heap.size 23 #[.int .i64 0, .int .i64 0] := by rw [hw3]; exact Bx.new _ _ _ rfl
    rw [← hw3]
    clear hw3
    have T0_w3 := Lib.hid (T0_w2.out.below bw3)
    have BA_w3 := Lib.hid (Xw3)
    have z0_w3 : w.heap.size < w3.heap.size := Nat.lt_of_lt_of_le z0_w2 bw3.size
    have B_w3 := bt B_w2 bw3
    clear T0_w2 z0_w2 B_w2 bw3
    have z1_w3 : w2.heap.size < w3.heap.size := Xw3.lt
    clear Xw3
    go_at_call 7
    (with_reducible refine (C.tick_no _ _ _ _ hok.out).mono ?_)
    rintro e w4 ⟨rfl, hb4⟩
    have T0_w4 := Lib.hid (T0_w3.out.below hb4)
    have BA_w4 := Lib.hid (BA_w3.out.below hb4)
    have z0_w4 : w.heap.size < w4.heap.size := Nat.lt_of_lt_of_le z0_w3 hb4.size
    have z1_w4 : w2.heap.size < w4.heap.size := Nat.lt_of_lt_of_le z1_w3 hb4.size
    have B_w4 := bt B_w3 hb4
    clear T0_w3 BA_w3 z0_w3 z1_w3 B_w3 hb4
    have o_T0_0 := T0_w4.out.c (i := 0) rfl
    have o_T0_1 := T0_w4.out.c (i := 1) rfl
    go_wp2_with fail
    clear o_T0_0 o_T0_1
    obtain ⟨w5, hw5⟩ : ∃ W, W = w4.alloc (.cells #[.int .i64 0, .int .i64 0] 23) := ⟨_, rfl⟩
    have bw5 : Below w4.heap.size w4 w5 := by rw [hw5]; exact (Below.refl _ _).alloc (Nat.le_refl _) _
    have Xw5 : Bx w5 w4.heap.size 23 #[.int .i64 0, .int .i64 0] := by rw [hw5]; exact Bx.new _ _ _ rfl
    rw [← hw5]
    clear hw5
    have T0_w5 := Lib.hid (T0_w4.out.below bw5)
    have BA_w5 := Lib.hid (BA_w4.out.below bw5)
    have BB_w5 := Lib.hid (Xw5)
    have z0_w5 : w.heap.size < w5.heap.size := Nat.lt_of_lt_of_le z0_w4 bw5.size
    have z1_w5 : w2.heap.size < w5.heap.size := Nat.lt_of_lt_of_le z1_w4 bw5.size
    have B_w5 := bt B_w4 bw5
    clear T0_w4 BA_w4 z0_w4 z1_w4 B_w4 bw5
    have z2_w5 : w4.heap.size < w5.heap.size := Xw5.lt
    clear Xw5
    go_at_call 8
    (with_reducible refine (C.left_no _ _ _ _ hok.out).mono ?_)
    rintro e w6 ⟨rfl, hb6⟩
    have T0_w6 := Lib.hid (T0_w5.out.below hb6)
    have BA_w6 := Lib.hid (BA_w5.out.below hb6)
    have BB_w6 := Lib.hid (BB_w5.out.below hb6)
    have z0_w6 : w.heap.size < w6.heap.size := Nat.lt_of_lt_of_le z0_w5 hb6.size
    have z1_w6 : w2.heap.size < w6.heap.size := Nat.lt_of_lt_of_le z1_w5 hb6.size
    have z2_w6 : w4.heap.size < w6.heap.size := Nat.lt_of_lt_of_le z2_w5 hb6.size
    have B_w6 := bt B_w5 hb6
    clear T0_w5 BA_w5 BB_w5 z0_w5 z1_w5 z2_w5 B_w5 hb6
    have o_T0_0 := T0_w6.out.c (i := 0) rfl
    have o_T0_1 := T0_w6.out.c (i := 1) rfl
    go_wp2_with fail
    clear o_T0_0 o_T0_1
    go_at_call 9
    (with_reducible refine (may_to C h2.out h3.out).mono ?_)
    rintro e w7 ⟨rfl, hb7⟩
    have T0_w7 := Lib.hid (T0_w6.out.below hb7)
    have BA_w7 := Lib.hid (BA_w6.out.below hb7)
    have BB_w7 := Lib.hid (BB_w6.out.below hb7)
    have z0_w7 : w.heap.size < w7.heap.size := Nat.lt_of_lt_of_le z0_w6 hb7.size
    have z1_w7 : w2.heap.size < w7.heap.size := Nat.lt_of_lt_of_le z1_w6 hb7.size
    have z2_w7 : w4.heap.size < w7.heap.size := Nat.lt_of_lt_of_le z2_w6 hb7.size
    have B_w7 := bt B_w6 hb7
    clear T0_w6 BA_w6 BB_w6 z0_w6 z1_w6 z2_w6 B_w6 hb7
    go_wp2_with fail
    cases b2 <;> cases b3
    all_goals
      have K_T0_0 := cell_regrown (T0_w7.out.c (i := 0) rfl)
      have K_T0_1 := cell_regrown (T0_w7.out.c (i := 1) rfl)
      have cC0 := fun (d : Nat) (os : Array Obj) => Calls.regrown_of (right_to C (w := (Go.Sort.grow (redrawn w7 d) os)) hok.out)
      have cC1 := fun (d : Nat) (os : Array Obj) => Calls.regrown_of (r_right_to (w := (Go.Sort.grow (redrawn w7 d) os)) hok.out)
      have cC2 := fun (d : Nat) (os : Array Obj) => Calls.regrown_of (alive_any C (Go.Sort.grow (redrawn w7 d) os))
      refine wp_region_quiet_below (by kernel_rfl) (by kernel_rfl) ?_
      repeat (first | go_big_quiet_step (first | with_reducible exact cC0 _ _ | with_reducible exact cC1 _ _ | with_reducible exact cC2 _ _) | quiet_step (first | with_reducible exact cC0 _ _ | with_reducible exact cC1 _ _ | with_reducible exact cC2 _ _))
      refine wpQuiet_nil ?_
      intro _ hw'
      obtain ⟨⟨dq, osq⟩, hw''⟩ := hw'
      subst hw''
      have hqw8 := below_regrown w7 dq osq
      clear K_T0_0 K_T0_1 cC0 cC1 cC2
      generalize Go.Sort.grow (redrawn w7 dq) osq = w8 at *
      have T0_w8 := Lib.hid (T0_w7.out.below hqw8)
      have BA_w8 := Lib.hid (BA_w7.out.below hqw8)
      have BB_w8 := Lib.hid (BB_w7.out.below hqw8)
      have z0_w8 : w.heap.size < w8.heap.size := Nat.lt_of_lt_of_le z0_w7 hqw8.size
      have z1_w8 : w2.heap.size < w8.heap.size := Nat.lt_of_lt_of_le z1_w7 hqw8.size
      have z2_w8 : w4.heap.size < w8.heap.size := Nat.lt_of_lt_of_le z2_w7 hqw8.size
      have B_w8 := bt B_w7 hqw8
      clear T0_w7 BA_w7 BB_w7 z0_w7 z1_w7 z2_w7 B_w7 hqw8
      have o_T0_0 := T0_w8.out.c (i := 0) rfl
      have o_T0_1 := T0_w8.out.c (i := 1) rfl
      go_wp2_with fail
      clear o_T0_0 o_T0_1
      go_at_call 11
      (with_reducible refine (r_right_to hok.out).mono ?_)
      rintro e w9 ⟨rfl, hb9⟩
      have T0_w9 := Lib.hid (T0_w8.out.below hb9)
      have BA_w9 := Lib.hid (BA_w8.out.below hb9)
      have BB_w9 := Lib.hid (BB_w8.out.below hb9)
      have z0_w9 : w.heap.size < w9.heap.size := Nat.lt_of_lt_of_le z0_w8 hb9.size
      have z1_w9 : w2.heap.size < w9.heap.size := Nat.lt_of_lt_of_le z1_w8 hb9.size
      have z2_w9 : w4.heap.size < w9.heap.size := Nat.lt_of_lt_of_le z2_w8 hb9.size
      have B_w9 := bt B_w8 hb9
      clear T0_w8 BA_w8 BB_w8 z0_w8 z1_w8 z2_w8 B_w8 hb9
      have o_BA_0 := BA_w9.out.c (i := 0) rfl
      have o_BA_1 := BA_w9.out.c (i := 1) rfl
      have o_BB_0 := BB_w9.out.c (i := 0) rfl
      have o_BB_1 := BB_w9.out.c (i := 1) rfl
      go_wp2_with fail
      go_ret
      exact ⟨rfl, B_w9⟩
  | true =>
    obtain ⟨⟨x1, x2⟩, hx⟩ : ∃ x, roleS s l d act = x := ⟨_, rfl⟩
    obtain ⟨⟨y1, y2⟩, hy⟩ : ∃ x, tickS s l d = x := ⟨_, rfl⟩
    obtain ⟨n, hn⟩ : ∃ x, leftS s l d = x := ⟨_, rfl⟩
    have hE1 := fun w => eql_same x1 x2 w
    have hE2 := fun w => eql_same y1 y2 w
    replace hok := Lib.hid hok
    replace hx := Lib.hid hx
    replace hy := Lib.hid hy
    replace hn := Lib.hid hn
    go_at_call 6
    (with_reducible refine (role_to C _ hok.out hx.out).mono ?_)
    rintro e w2 ⟨rfl, hb2⟩
    have T0_w2 := Lib.hid (T0_w1.out.below hb2)
    have z0_w2 : w.heap.size < w2.heap.size := Nat.lt_of_lt_of_le z0_w1 hb2.size
    have B_w2 := bt bw1 hb2
    clear T0_w1 z0_w1 bw1 hb2
    have o_T0_0 := T0_w2.out.c (i := 0) rfl
    have o_T0_1 := T0_w2.out.c (i := 1) rfl
    go_wp2_with fail
    clear o_T0_0 o_T0_1
    obtain ⟨w3, hw3⟩ : ∃ W, W = w2.alloc (.cells #[.int .i64 x1, .int .i64 x2] 23) := ⟨_, rfl⟩
    have bw3 : Below w2.heap.size w2 w3 := by rw [hw3]; exact (Below.refl _ _).alloc (Nat.le_refl _) _
    have Xw3 : Bx w3 w2.heap.size 23 #[.int .i64 x1, .int .i64 x2] := by rw [hw3]; exact Bx.new _ _ _ rfl
    rw [← hw3]
    clear hw3
    have T0_w3 := Lib.hid (T0_w2.out.below bw3)
    have BA_w3 := Lib.hid (Xw3)
    have z0_w3 : w.heap.size < w3.heap.size := Nat.lt_of_lt_of_le z0_w2 bw3.size
    have B_w3 := bt B_w2 bw3
    clear T0_w2 z0_w2 B_w2 bw3
    have z1_w3 : w2.heap.size < w3.heap.size := Xw3.lt
    clear Xw3
    go_at_call 7
    (with_reducible refine (tick_to C hok.out hy.out).mono ?_)
    rintro e w4 ⟨rfl, hb4⟩
    have T0_w4 := Lib.hid (T0_w3.out.below hb4)
    have BA_w4 := Lib.hid (BA_w3.out.below hb4)
    have z0_w4 : w.heap.size < w4.heap.size := Nat.lt_of_lt_of_le z0_w3 hb4.size
    have z1_w4 : w2.heap.size < w4.heap.size := Nat.lt_of_lt_of_le z1_w3 hb4.size
    have B_w4 := bt B_w3 hb4
    clear T0_w3 BA_w3 z0_w3 z1_w3 B_w3 hb4
    have o_T0_0 := T0_w4.out.c (i := 0) rfl
    have o_T0_1 := T0_w4.out.c (i := 1) rfl
    go_wp2_with fail
    clear o_T0_0 o_T0_1
    obtain ⟨w5, hw5⟩ : ∃ W, W = w4.alloc (.cells #[.int .i64 y1, .int .i64 y2] 23) := ⟨_, rfl⟩
    have bw5 : Below w4.heap.size w4 w5 := by rw [hw5]; exact (Below.refl _ _).alloc (Nat.le_refl _) _
    have Xw5 : Bx w5 w4.heap.size 23 #[.int .i64 y1, .int .i64 y2] := by rw [hw5]; exact Bx.new _ _ _ rfl
    rw [← hw5]
    clear hw5
    have T0_w5 := Lib.hid (T0_w4.out.below bw5)
    have BA_w5 := Lib.hid (BA_w4.out.below bw5)
    have BB_w5 := Lib.hid (Xw5)
    have z0_w5 : w.heap.size < w5.heap.size := Nat.lt_of_lt_of_le z0_w4 bw5.size
    have z1_w5 : w2.heap.size < w5.heap.size := Nat.lt_of_lt_of_le z1_w4 bw5.size
    have B_w5 := bt B_w4 bw5
    clear T0_w4 BA_w4 z0_w4 z1_w4 B_w4 bw5
    have z2_w5 : w4.heap.size < w5.heap.size := Xw5.lt
    clear Xw5
    go_at_call 8
    (with_reducible refine (left_to C hok.out hn.out).mono ?_)
    rintro e w6 ⟨rfl, hb6⟩
    have T0_w6 := Lib.hid (T0_w5.out.below hb6)
    have BA_w6 := Lib.hid (BA_w5.out.below hb6)
    have BB_w6 := Lib.hid (BB_w5.out.below hb6)
    have z0_w6 : w.heap.size < w6.heap.size := Nat.lt_of_lt_of_le z0_w5 hb6.size
    have z1_w6 : w2.heap.size < w6.heap.size := Nat.lt_of_lt_of_le z1_w5 hb6.size
    have z2_w6 : w4.heap.size < w6.heap.size := Nat.lt_of_lt_of_le z2_w5 hb6.size
    have B_w6 := bt B_w5 hb6
    clear T0_w5 BA_w5 BB_w5 z0_w5 z1_w5 z2_w5 B_w5 hb6
    have o_T0_0 := T0_w6.out.c (i := 0) rfl
    have o_T0_1 := T0_w6.out.c (i := 1) rfl
    go_wp2_with fail
    clear o_T0_0 o_T0_1
    go_at_call 9
    (with_reducible refine (may_to C h2.out h3.out).mono ?_)
    rintro e w7 ⟨rfl, hb7⟩
    have T0_w7 := Lib.hid (T0_w6.out.below hb7)
    have BA_w7 := Lib.hid (BA_w6.out.below hb7)
    have BB_w7 := Lib.hid (BB_w6.out.below hb7)
    have z0_w7 : w.heap.size < w7.heap.size := Nat.lt_of_lt_of_le z0_w6 hb7.size
    have z1_w7 : w2.heap.size < w7.heap.size := Nat.lt_of_lt_of_le z1_w6 hb7.size
    have z2_w7 : w4.heap.size < w7.heap.size := Nat.lt_of_lt_of_le z2_w6 hb7.size
    have B_w7 := bt B_w6 hb7
    clear T0_w6 BA_w6 BB_w6 z0_w6 z1_w6 z2_w6 B_w6 hb7
    go_wp2_with fail
    cases b2 <;> cases b3
    all_goals
      have K_T0_0 := cell_regrown (T0_w7.out.c (i := 0) rfl)
      have K_T0_1 := cell_regrown (T0_w7.out.c (i := 1) rfl)
      have cC0 := fun (d : Nat) (os : Array Obj) => Calls.regrown_of (right_to C (w := (Go.Sort.grow (redrawn w7 d) os)) hok.out)
      have cC1 := fun (d : Nat) (os : Array Obj) => Calls.regrown_of (r_right_to (w := (Go.Sort.grow (redrawn w7 d) os)) hok.out)
      have cC2 := fun (d : Nat) (os : Array Obj) => Calls.regrown_of (alive_any C (Go.Sort.grow (redrawn w7 d) os))
      refine wp_region_quiet_below (by kernel_rfl) (by kernel_rfl) ?_
      repeat (first | go_big_quiet_step (first | with_reducible exact cC0 _ _ | with_reducible exact cC1 _ _ | with_reducible exact cC2 _ _) | quiet_step (first | with_reducible exact cC0 _ _ | with_reducible exact cC1 _ _ | with_reducible exact cC2 _ _))
      refine wpQuiet_nil ?_
      intro _ hw'
      obtain ⟨⟨dq, osq⟩, hw''⟩ := hw'
      subst hw''
      have hqw8 := below_regrown w7 dq osq
      clear K_T0_0 K_T0_1 cC0 cC1 cC2
      generalize Go.Sort.grow (redrawn w7 dq) osq = w8 at *
      have T0_w8 := Lib.hid (T0_w7.out.below hqw8)
      have BA_w8 := Lib.hid (BA_w7.out.below hqw8)
      have BB_w8 := Lib.hid (BB_w7.out.below hqw8)
      have z0_w8 : w.heap.size < w8.heap.size := Nat.lt_of_lt_of_le z0_w7 hqw8.size
      have z1_w8 : w2.heap.size < w8.heap.size := Nat.lt_of_lt_of_le z1_w7 hqw8.size
      have z2_w8 : w4.heap.size < w8.heap.size := Nat.lt_of_lt_of_le z2_w7 hqw8.size
      have B_w8 := bt B_w7 hqw8
      clear T0_w7 BA_w7 BB_w7 z0_w7 z1_w7 z2_w7 B_w7 hqw8
      have o_T0_0 := T0_w8.out.c (i := 0) rfl
      have o_T0_1 := T0_w8.out.c (i := 1) rfl
      go_wp2_with fail
      clear o_T0_0 o_T0_1
      go_at_call 11
      (with_reducible refine (r_right_to hok.out).mono ?_)
      rintro e w9 ⟨rfl, hb9⟩
      have T0_w9 := Lib.hid (T0_w8.out.below hb9)
      have BA_w9 := Lib.hid (BA_w8.out.below hb9)
      have BB_w9 := Lib.hid (BB_w8.out.below hb9)
      have z0_w9 : w.heap.size < w9.heap.size := Nat.lt_of_lt_of_le z0_w8 hb9.size
      have z1_w9 : w2.heap.size < w9.heap.size := Nat.lt_of_lt_of_le z1_w8 hb9.size
      have z2_w9 : w4.heap.size < w9.heap.size := Nat.lt_of_lt_of_le z2_w8 hb9.size
      have B_w9 := bt B_w8 hb9
      clear T0_w8 BA_w8 BB_w8 z0_w8 z1_w8 z2_w8 B_w8 hb9
      go_wp2_with fail
      have K_T0_0 := cell_regrown (T0_w9.out.c (i := 0) rfl)
      have K_T0_1 := cell_regrown (T0_w9.out.c (i := 1) rfl)
      have K_BA_0 := cell_regrown (BA_w9.out.c (i := 0) rfl)
      have K_BA_1 := cell_regrown (BA_w9.out.c (i := 1) rfl)
      have K_BB_0 := cell_regrown (BB_w9.out.c (i := 0) rfl)
      have K_BB_1 := cell_regrown (BB_w9.out.c (i := 1) rfl)
      have cC0 := fun (d : Nat) (os : Array Obj) => Calls.regrown_of (r_role_to (w := (Go.Sort.grow (redrawn w9 d) os)) _ hx.out)
      have cC1 := fun (d : Nat) (os : Array Obj) => Calls.regrown_of (r_tick_to (w := (Go.Sort.grow (redrawn w9 d) os)) hok.out hy.out)
      have cC2 := fun (d : Nat) (os : Array Obj) => Calls.regrown_of (r_left_to (w := (Go.Sort.grow (redrawn w9 d) os)) hok.out hn.out)
      refine wp_region_quiet_below (by kernel_rfl) (by kernel_rfl) ?_
      repeat (first | go_big_quiet_step (first | with_reducible exact cC0 _ _ | with_reducible exact cC1 _ _ | with_reducible exact cC2 _ _) | quiet_step (first | with_reducible exact cC0 _ _ | with_reducible exact cC1 _ _ | with_reducible exact cC2 _ _))
      refine wpQuiet_nil ?_
      intro _ hw'
      obtain ⟨⟨dq, osq⟩, hw''⟩ := hw'
      subst hw''
      have hqw10 := below_regrown w9 dq osq
      clear K_T0_0 K_T0_1 K_BA_0 K_BA_1 K_BB_0 K_BB_1 cC0 cC1 cC2
      generalize Go.Sort.grow (redrawn w9 dq) osq = w10 at *
      have T0_w10 := Lib.hid (T0_w9.out.below hqw10)
      have BA_w10 := Lib.hid (BA_w9.out.below hqw10)
      have BB_w10 := Lib.hid (BB_w9.out.below hqw10)
      have z0_w10 : w.heap.size < w10.heap.size := Nat.lt_of_lt_of_le z0_w9 hqw10.size
      have z1_w10 : w2.heap.size < w10.heap.size := Nat.lt_of_lt_of_le z1_w9 hqw10.size
      have z2_w10 : w4.heap.size < w10.heap.size := Nat.lt_of_lt_of_le z2_w9 hqw10.size
      have B_w10 := bt B_w9 hqw10
      clear T0_w9 BA_w9 BB_w9 z0_w9 z1_w9 z2_w9 B_w9 hqw10
      go_wp2_with fail
      go_ret
      exact ⟨rfl, B_w10⟩
end Go.Proofs.Ytmgbdpmghbdldaa.PortP
