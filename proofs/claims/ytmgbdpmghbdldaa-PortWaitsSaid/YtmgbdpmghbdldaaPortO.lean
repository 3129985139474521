/-
  PortOff, by the contracts of port's own functions.
-/
import Derived.Test.YtmgbdpmghbdldaaPortC
namespace Go.Proofs.Ytmgbdpmghbdldaa.PortP
open Go.RowKit Go.Sort Go.Proofs.Ytmgbdpmghbdldaa.BoxP
set_option linter.unusedVariables false
set_option maxRecDepth 100000
theorem left_bd {s l d : Int} (h : okS s l d = true) : leftS s l d ≤ 2 * d := by
  obtain ⟨hd, h⟩ := ok_iff.1 h
  unfold leftS
  rcases h with ⟨rfl, rfl⟩ | ⟨rfl, h1, h2⟩ | ⟨rfl, h1, h2⟩ | ⟨rfl, rfl⟩ <;> simp <;> omega
set_option maxHeartbeats 64000000 in
theorem off_any (C : PortC) (s l d : Int) (w : World) : Calls Try.prog 5 #[sv s l, .int .i64 d] w (True1 w) := by
  go_enter Try.func5, Try.ntmps5
  go_wp2_with fail
  obtain ⟨w1, hw1⟩ : ∃ W, W = w.alloc (.cells #[.int .i64 s, .int .i64 l] 23) := ⟨_, rfl⟩
  have bw1 : Below w.heap.size w w1 := by rw [hw1]; exact (Below.refl _ _).alloc (Nat.le_refl _) _
  have Xw1 : Bx w1 w.heap.size 23 #[.int .i64 s, .int .i64 l] := by rw [hw1]; exact Bx.new _ _ _ rfl
  rw [← hw1]
  clear hw1
  have T0_w1 := Lib.hid (Xw1)
  have z0_w1 : w.heap.size < w1.heap.size := Xw1.lt
  clear Xw1
  cases hok : okS s l d with
  | false =>
    replace hok := Lib.hid hok
    go_at_call 6
    (with_reducible refine (C.role_no _ _ _ _ _ hok.out).mono ?_)
    rintro e w2 ⟨rfl, hb2⟩
    have T0_w2 := Lib.hid (T0_w1.out.below hb2)
    have z0_w2 : w.heap.size < w2.heap.size := Nat.lt_of_lt_of_le z0_w1 hb2.size
    have B_w2 := bt bw1 hb2
    clear T0_w1 z0_w1 bw1 hb2
    have o_T0_0 := T0_w2.out.c (i := 0) rfl
    have o_T0_1 := T0_w2.out.c (i := 1) rfl
    go_wp2_with fail
    clear o_T0_0 o_T0_1
    obtain ⟨w3, hw3⟩ : ∃ W, W = w2.alloc (.cells #[.int .i64 0, .int .i64 0] 23) := ⟨_, rfl⟩
    have bw3 : Below w2.heap.size w2 w3 := by rw [hw3]; exact (Below.refl _ _).alloc (Nat.le_refl _) _
    have Xw3 : Bx w3 w2.heap.size 23 #[.int .i64 0, .int .i64 0] := by rw [hw3]; exact Bx.new _ _ _ rfl
    rw [← hw3]
    clear hw3
    have T0_w3 := Lib.hid (T0_w2.out.below bw3)
    have BA_w3 := Lib.hid (Xw3)
    have z0_w3 : w.heap.size < w3.heap.size := Nat.lt_of_lt_of_le z0_w2 bw3.size
    have B_w3 := bt B_w2 bw3
    clear T0_w2 z0_w2 B_w2 bw3
    have z1_w3 : w2.heap.size < w3.heap.size := Xw3.lt
    clear Xw3
    go_at_call 6
    (with_reducible refine (C.role_no _ _ _ _ _ hok.out).mono ?_)
    rintro e w4 ⟨rfl, hb4⟩
    have T0_w4 := Lib.hid (T0_w3.out.below hb4)
    have BA_w4 := Lib.hid (BA_w3.out.below hb4)
    have z0_w4 : w.heap.size < w4.heap.size := Nat.lt_of_lt_of_le z0_w3 hb4.size
    have z1_w4 : w2.heap.size < w4.heap.size := Nat.lt_of_lt_of_le z1_w3 hb4.size
    have B_w4 := bt B_w3 hb4
    clear T0_w3 BA_w3 z0_w3 z1_w3 B_w3 hb4
    go_wp2_with fail
    obtain ⟨w5, hw5⟩ : ∃ W, W = w4.alloc (.cells #[.int .i64 0, .int .i64 0] 23) := ⟨_, rfl⟩
    have bw5 : Below w4.heap.size w4 w5 := by rw [hw5]; exact (Below.refl _ _).alloc (Nat.le_refl _) _
    have Xw5 : Bx w5 w4.heap.size 23 #[.int .i64 0, .int .i64 0] := by rw [hw5]; exact Bx.new _ _ _ rfl
    rw [← hw5]
    clear hw5
    have T0_w5 := Lib.hid (T0_w4.out.below bw5)
    have BA_w5 := Lib.hid (BA_w4.out.below bw5)
    have BB_w5 := Lib.hid (Xw5)
    have z0_w5 : w.heap.size < w5.heap.size := Nat.lt_of_lt_of_le z0_w4 bw5.size
    have z1_w5 : w2.heap.size < w5.heap.size := Nat.lt_of_lt_of_le z1_w4 bw5.size
    have B_w5 := bt B_w4 bw5
    clear T0_w4 BA_w4 z0_w4 z1_w4 B_w4 bw5
    have z2_w5 : w4.heap.size < w5.heap.size := Xw5.lt
    clear Xw5
    go_at_call 12
    (with_reducible refine (alive_any C _).mono ?_)
    rintro e w6 ⟨rfl, hb6⟩
    have T0_w6 := Lib.hid (T0_w5.out.below hb6)
    have BA_w6 := Lib.hid (BA_w5.out.below hb6)
    have BB_w6 := Lib.hid (BB_w5.out.below hb6)
    have z0_w6 : w.heap.size < w6.heap.size := Nat.lt_of_lt_of_le z0_w5 hb6.size
    have z1_w6 : w2.heap.size < w6.heap.size := Nat.lt_of_lt_of_le z1_w5 hb6.size
    have z2_w6 : w4.heap.size < w6.heap.size := Nat.lt_of_lt_of_le z2_w5 hb6.size
    have B_w6 := bt B_w5 hb6
    clear T0_w5 BA_w5 BB_w5 z0_w5 z1_w5 z2_w5 B_w5 hb6
    have o_BA_0 := BA_w6.out.c (i := 0) rfl
    have o_BA_1 := BA_w6.out.c (i := 1) rfl
    have o_BB_0 := BB_w6.out.c (i := 0) rfl
    have o_BB_1 := BB_w6.out.c (i := 1) rfl
    go_wp2_with fail
    go_ret
    exact ⟨rfl, B_w6⟩
  | true =>
    obtain ⟨⟨hd1, hd2⟩, _⟩ := ok_iff.1 hok
    obtain ⟨n, hn⟩ : ∃ x, leftS s l d = x := ⟨_, rfl⟩
    have hnb := left_bd hok
    have hlr := (left_role hok).1
    have hokx := ok_role (a := true) hok
    rw [hn] at hnb hlr
    obtain ⟨⟨x1, x2⟩, hx⟩ : ∃ x, roleS s l d true = x := ⟨_, rfl⟩
    rw [hx] at hlr hokx
    simp only at hlr hokx
    have h00 := Lib.hid (show okS 0 0 d = true from ok_iff.2 ⟨⟨hd1, hd2⟩, .inl ⟨rfl, rfl⟩⟩)
    have hl0 := Lib.hid (show leftS 0 0 d = 2 * d from rfl)
    have hr0 := Lib.hid (show roleS s l d false = (0, 0) from rfl)
    replace hok := Lib.hid hok
    replace hx := Lib.hid hx
    replace hn := Lib.hid hn
    replace hlr := Lib.hid hlr
    replace hokx := Lib.hid hokx
    go_at_call 6
    (with_reducible refine (role_to C _ hok.out hr0.out).mono ?_)
    rintro e w2 ⟨rfl, hb2⟩
    have T0_w2 := Lib.hid (T0_w1.out.below hb2)
    have z0_w2 : w.heap.size < w2.heap.size := Nat.lt_of_lt_of_le z0_w1 hb2.size
    have B_w2 := bt bw1 hb2
    clear T0_w1 z0_w1 bw1 hb2
    have o_T0_0 := T0_w2.out.c (i := 0) rfl
    have o_T0_1 := T0_w2.out.c (i := 1) rfl
    go_wp2_with fail
    clear o_T0_0 o_T0_1
    obtain ⟨w3, hw3⟩ : ∃ W, W = w2.alloc (.cells #[.int .i64 0, .int .i64 0] 23) := ⟨_, rfl⟩
    have bw3 : Below w2.heap.size w2 w3 := by rw [hw3]; exact (Below.refl _ _).alloc (Nat.le_refl _) _
    have Xw3 : Bx w3 w2.heap.size 23 #[.int .i64 0, .int .i64 0] := by rw [hw3]; exact Bx.new _ _ _ rfl
    rw [← hw3]
    clear hw3
    have T0_w3 := Lib.hid (T0_w2.out.below bw3)
    have BA_w3 := Lib.hid (Xw3)
    have z0_w3 : w.heap.size < w3.heap.size := Nat.lt_of_lt_of_le z0_w2 bw3.size
    have B_w3 := bt B_w2 bw3
    clear T0_w2 z0_w2 B_w2 bw3
    have z1_w3 : w2.heap.size < w3.heap.size := Xw3.lt
    clear Xw3
    go_at_call 6
    (with_reducible refine (role_to C _ hok.out hx.out).mono ?_)
    rintro e w4 ⟨rfl, hb4⟩
    have T0_w4 := Lib.hid (T0_w3.out.below hb4)
    have BA_w4 := Lib.hid (BA_w3.out.below hb4)
    have z0_w4 : w.heap.size < w4.heap.size := Nat.lt_of_lt_of_le z0_w3 hb4.size
    have z1_w4 : w2.heap.size < w4.heap.size := Nat.lt_of_lt_of_le z1_w3 hb4.size
    have B_w4 := bt B_w3 hb4
    clear T0_w3 BA_w3 z0_w3 z1_w3 B_w3 hb4
    have o_BA_0 := BA_w4.out.c (i := 0) rfl
    have o_BA_1 := BA_w4.out.c (i := 1) rfl
    go_wp2_with fail
    clear o_BA_0 o_BA_1
    obtain ⟨w5, hw5⟩ : ∃ W, W = w4.alloc (.cells #[.int .i64 x1, .int .i64 x2] 23) := ⟨_, rfl⟩
    have bw5 : Below w4.heap.size w4 w5 := by rw [hw5]; exact (Below.refl _ _).alloc (Nat.le_refl _) _
    have Xw5 : Bx w5 w4.heap.size 23 #[.int .i64 x1, .int .i64 x2] := by rw [hw5]; exact Bx.new _ _ _ rfl
    rw [← hw5]
    clear hw5
    have T0_w5 := Lib.hid (T0_w4.out.below bw5)
    have BA_w5 := Lib.hid (BA_w4.out.below bw5)
    have BB_w5 := Lib.hid (Xw5)
    have z0_w5 : w.heap.size < w5.heap.size := Nat.lt_of_lt_of_le z0_w4 bw5.size
    have z1_w5 : w2.heap.size < w5.heap.size := Nat.lt_of_lt_of_le z1_w4 bw5.size
    have B_w5 := bt B_w4 bw5
    clear T0_w4 BA_w4 z0_w4 z1_w4 B_w4 bw5
    have z2_w5 : w4.heap.size < w5.heap.size := Xw5.lt
    clear Xw5
    go_at_call 8
    (with_reducible refine (left_to C h00.out hl0.out).mono ?_)
    rintro e w6 ⟨rfl, hb6⟩
    have T0_w6 := Lib.hid (T0_w5.out.below hb6)
    have BA_w6 := Lib.hid (BA_w5.out.below hb6)
    have BB_w6 := Lib.hid (BB_w5.out.below hb6)
    have z0_w6 : w.heap.size < w6.heap.size := Nat.lt_of_lt_of_le z0_w5 hb6.size
    have z1_w6 : w2.heap.size < w6.heap.size := Nat.lt_of_lt_of_le z1_w5 hb6.size
    have z2_w6 : w4.heap.size < w6.heap.size := Nat.lt_of_lt_of_le z2_w5 hb6.size
    have B_w6 := bt B_w5 hb6
    clear T0_w5 BA_w5 BB_w5 z0_w5 z1_w5 z2_w5 B_w5 hb6
    have o_BB_0 := BB_w6.out.c (i := 0) rfl
    have o_BB_1 := BB_w6.out.c (i := 1) rfl
    go_wp2_with fail
    clear o_BB_0 o_BB_1
    go_at_call 8
    (with_reducible refine (left_to C hokx.out hlr.out).mono ?_)
    rintro e w7 ⟨rfl, hb7⟩
    have T0_w7 := Lib.hid (T0_w6.out.below hb7)
    have BA_w7 := Lib.hid (BA_w6.out.below hb7)
    have BB_w7 := Lib.hid (BB_w6.out.below hb7)
    have z0_w7 : w.heap.size < w7.heap.size := Nat.lt_of_lt_of_le z0_w6 hb7.size
    have z1_w7 : w2.heap.size < w7.heap.size := Nat.lt_of_lt_of_le z1_w6 hb7.size
    have z2_w7 : w4.heap.size < w7.heap.size := Nat.lt_of_lt_of_le z2_w6 hb7.size
    have B_w7 := bt B_w6 hb7
    clear T0_w6 BA_w6 BB_w6 z0_w6 z1_w6 z2_w6 B_w6 hb7
    have o_T0_0 := T0_w7.out.c (i := 0) rfl
    have o_T0_1 := T0_w7.out.c (i := 1) rfl
    go_wp2_with fail
    clear o_T0_0 o_T0_1
    go_at_call 8
    (with_reducible refine (left_to C hok.out hn.out).mono ?_)
    rintro e w8 ⟨rfl, hb8⟩
    have T0_w8 := Lib.hid (T0_w7.out.below hb8)
    have BA_w8 := Lib.hid (BA_w7.out.below hb8)
    have BB_w8 := Lib.hid (BB_w7.out.below hb8)
    have z0_w8 : w.heap.size < w8.heap.size := Nat.lt_of_lt_of_le z0_w7 hb8.size
    have z1_w8 : w2.heap.size < w8.heap.size := Nat.lt_of_lt_of_le z1_w7 hb8.size
    have z2_w8 : w4.heap.size < w8.heap.size := Nat.lt_of_lt_of_le z2_w7 hb8.size
    have B_w8 := bt B_w7 hb8
    clear T0_w7 BA_w7 BB_w7 z0_w7 z1_w7 z2_w7 B_w7 hb8
    have o_BA_0 := BA_w8.out.c (i := 0) rfl
    have o_BA_1 := BA_w8.out.c (i := 1) rfl
    go_wp2_with fail
    clear o_BA_0 o_BA_1
    go_at_call 9
    (with_reducible refine (may_to C (s := 0) (l := 0) (b2 := false) (b3 := false) (by decide) (by decide)).mono ?_)
    rintro e w9 ⟨rfl, hb9⟩
    have T0_w9 := Lib.hid (T0_w8.out.below hb9)
    have BA_w9 := Lib.hid (BA_w8.out.below hb9)
    have BB_w9 := Lib.hid (BB_w8.out.below hb9)
    have z0_w9 : w.heap.size < w9.heap.size := Nat.lt_of_lt_of_le z0_w8 hb9.size
    have z1_w9 : w2.heap.size < w9.heap.size := Nat.lt_of_lt_of_le z1_w8 hb9.size
    have z2_w9 : w4.heap.size < w9.heap.size := Nat.lt_of_lt_of_le z2_w8 hb9.size
    have B_w9 := bt B_w8 hb9
    clear T0_w8 BA_w8 BB_w8 z0_w8 z1_w8 z2_w8 B_w8 hb9
    go_wp2_with fail
    go_at_call 12
    (with_reducible refine (alive_any C _).mono ?_)
    rintro e w10 ⟨rfl, hb10⟩
    have T0_w10 := Lib.hid (T0_w9.out.below hb10)
    have BA_w10 := Lib.hid (BA_w9.out.below hb10)
    have BB_w10 := Lib.hid (BB_w9.out.below hb10)
    have z0_w10 : w.heap.size < w10.heap.size := Nat.lt_of_lt_of_le z0_w9 hb10.size
    have z1_w10 : w2.heap.size < w10.heap.size := Nat.lt_of_lt_of_le z1_w9 hb10.size
    have z2_w10 : w4.heap.size < w10.heap.size := Nat.lt_of_lt_of_le z2_w9 hb10.size
    have B_w10 := bt B_w9 hb10
    clear T0_w9 BA_w9 BB_w9 z0_w9 z1_w9 z2_w9 B_w9 hb10
    have o_BA_0 := BA_w10.out.c (i := 0) rfl
    have o_BA_1 := BA_w10.out.c (i := 1) rfl
    go_wp2_with fail
    go_ret
    exact ⟨rfl, B_w10⟩
end Go.Proofs.Ytmgbdpmghbdldaa.PortP
