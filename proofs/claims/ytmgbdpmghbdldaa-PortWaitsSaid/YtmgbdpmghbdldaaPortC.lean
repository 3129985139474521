/-
  What is asked of port's own functions; the statements' alive.
-/
import Derived.Test.YtmgbdpmghbdldaaPortR
namespace Go.Proofs.Ytmgbdpmghbdldaa.PortP
open Go.RowKit Go.Sort Go.Proofs.Ytmgbdpmghbdldaa.BoxP
set_option linter.unusedVariables false
set_option maxRecDepth 100000
def RetSt (w : World) (x : Int × Int) (er : Int) (e : Ending) (w' : World) : Prop := e = .returned (.tuple #[sv x.1 x.2, .int .i64 er]) ∧ Below w.heap.size w w'
def RetN (w : World) (n er : Int) (e : Ending) (w' : World) : Prop := e = .returned (.tuple #[.int .i64 n, .int .i64 er]) ∧ Below w.heap.size w w'
/-- The contracts of port's own functions. -/
structure PortC : Prop where
  right : ∀ (s l d : Int) (w : World), Calls Try.prog 10 #[sv s l, .int .i64 d] w fun e w' => e = .returned (.bool (okS s l d)) ∧ Below w.heap.size w w'
  role_ok : ∀ (s l d : Int) (a : Bool) (w : World), okS s l d = true → Calls Try.prog 6 #[sv s l, .int .i64 d, .bool a] w (RetSt w (roleS s l d a) 0)
  role_no : ∀ (s l d : Int) (a : Bool) (w : World), okS s l d = false → Calls Try.prog 6 #[sv s l, .int .i64 d, .bool a] w (RetSt w (0, 0) 1)
  tick_ok : ∀ (s l d : Int) (w : World), okS s l d = true → Calls Try.prog 7 #[sv s l, .int .i64 d] w (RetSt w (tickS s l d) 0)
  tick_no : ∀ (s l d : Int) (w : World), okS s l d = false → Calls Try.prog 7 #[sv s l, .int .i64 d] w (RetSt w (0, 0) 1)
  left_ok : ∀ (s l d : Int) (w : World), okS s l d = true → Calls Try.prog 8 #[sv s l, .int .i64 d] w (RetN w (leftS s l d) 0)
  left_no : ∀ (s l d : Int) (w : World), okS s l d = false → Calls Try.prog 8 #[sv s l, .int .i64 d] w (RetN w 0 1)
  may : ∀ (s l : Int) (w : World), Calls Try.prog 9 #[sv s l] w fun e w' => e = .returned (.tuple #[.bool (decide (s = 2) || decide (s = 3)), .bool (decide (s = 3))]) ∧ Below w.heap.size w w'
section
variable (C : PortC) {s l d x1 x2 n : Int} {w : World}
include C
theorem role_to (a : Bool) (h : okS s l d = true) (e : roleS s l d a = (x1, x2)) : Calls Try.prog 6 #[sv s l, .int .i64 d, .bool a] w fun e w' => e = .returned (.tuple #[sv x1 x2, .int .i64 0]) ∧ Below w.heap.size w w' := by
  have := C.role_ok s l d a w h
  rwa [e] at this
theorem tick_to (h : okS s l d = true) (e : tickS s l d = (x1, x2)) : Calls Try.prog 7 #[sv s l, .int .i64 d] w fun e w' => e = .returned (.tuple #[sv x1 x2, .int .i64 0]) ∧ Below w.heap.size w w' := by
  have := C.tick_ok s l d w h
  rwa [e] at this
theorem left_to (h : okS s l d = true) (e : leftS s l d = n) : Calls Try.prog 8 #[sv s l, .int .i64 d] w fun e w' => e = .returned (.tuple #[.int .i64 n, .int .i64 0]) ∧ Below w.heap.size w w' := by
  have := C.left_ok s l d w h
  rwa [e] at this
theorem right_to {b : Bool} (h : okS s l d = b) : Calls Try.prog 10 #[sv s l, .int .i64 d] w fun e w' => e = .returned (.bool b) ∧ Below w.heap.size w w' := by
  have := C.right s l d w
  rwa [h] at this
theorem may_to {b2 b3 : Bool} (h : decide (s = 2) = b2) (h' : decide (s = 3) = b3) : Calls Try.prog 9 #[sv s l] w fun e w' => e = .returned (.tuple #[.bool (b2 || b3), .bool b3]) ∧ Below w.heap.size w w' := by
  have := C.may s l w
  rwa [h, h'] at this
end
section
variable {s l d x1 x2 n : Int} {w : World}
theorem r_right_to {b : Bool} (h : okS s l d = b) : Calls Try.prog 11 #[sv s l, .int .i64 d] w fun e w' => e = .returned (.bool b) ∧ Below w.heap.size w w' := by
  have := r_right s l d w
  rwa [h] at this
theorem r_role_to (a : Bool) (e : roleS s l d a = (x1, x2)) : Calls Try.prog 13 #[sv s l, .int .i64 d, .bool a] w fun e w' => e = .returned (sv x1 x2) ∧ Below w.heap.size w w' := by
  have := r_role s l d a w
  rwa [e] at this
theorem r_tick_to (h : okS s l d = true) (e : tickS s l d = (x1, x2)) : Calls Try.prog 14 #[sv s l, .int .i64 d] w fun e w' => e = .returned (sv x1 x2) ∧ Below w.heap.size w w' := by
  have := r_tick h w
  rwa [e] at this
theorem r_left_to (h : okS s l d = true) (e : leftS s l d = n) : Calls Try.prog 15 #[sv s l, .int .i64 d] w fun e w' => e = .returned (.int .i64 n) ∧ Below w.heap.size w w' := by
  have := r_left h w
  rwa [e] at this
end
set_option maxHeartbeats 8000000 in
theorem alive_any (C : PortC) (w : World) : Calls Try.prog 12 #[] w fun e w' => e = .returned (.bool true) ∧ Below w.heap.size w w' := by
  go_enter Try.func12, Try.ntmps12
  go_wp2_with fail
  go_at_call 6
  (with_reducible refine (role_to C true (s := 0) (l := 0) (d := 2) (x1 := 1) (x2 := 2) (by decide) (by decide)).mono ?_)
  rintro e w1 ⟨rfl, hb1⟩
  go_wp2_with fail
  obtain ⟨w2, hw2⟩ : ∃ W, W = w1.alloc (.cells #[.int .i64 1, .int .i64 2] 23) := ⟨_, rfl⟩
  have bw2 : Below w1.heap.size w1 w2 := by rw [hw2]; exact (Below.refl _ _).alloc (Nat.le_refl _) _
  have Xw2 : Bx w2 w1.heap.size 23 #[.int .i64 1, .int .i64 2] := by rw [hw2]; exact Bx.new _ _ _ rfl
  rw [← hw2]
  clear hw2
  have BS_w2 := Lib.hid (Xw2)
  have B_w2 := bt hb1 bw2
  clear hb1 bw2
  have z0_w2 : w1.heap.size < w2.heap.size := Xw2.lt
  clear Xw2
  go_at_call 8
  (with_reducible refine (left_to C (s := 0) (l := 0) (d := 2) (n := 4) (by decide) (by decide)).mono ?_)
  rintro e w3 ⟨rfl, hb3⟩
  have BS_w3 := Lib.hid (BS_w2.out.below hb3)
  have z0_w3 : w1.heap.size < w3.heap.size := Nat.lt_of_lt_of_le z0_w2 hb3.size
  have B_w3 := bt B_w2 hb3
  clear BS_w2 z0_w2 B_w2 hb3
  have o_BS_0 := BS_w3.out.c (i := 0) rfl
  have o_BS_1 := BS_w3.out.c (i := 1) rfl
  go_wp2_with fail
  go_ret
  exact ⟨rfl, B_w3⟩
end Go.Proofs.Ytmgbdpmghbdldaa.PortP
