/-
  Contract of bpdu.Print over TryQ.
-/
import Derived.Test.YtlgfogllkoabpaaQOwnB
import Derived.Test.YtlgfogllkoabpaaQBpduR
namespace Go.Proofs.Ytlgfogllkoabpaa.QMacP
open Go.RowKit Go.Sort
set_option linter.unusedVariables false
set_option linter.unusedSimpArgs false
set_option maxRecDepth 100000
theorem b_right_is (r c b p a : Int) (v : Bool) (h : okC r c b p a = v) (w : World) :
    Calls TryQ.prog 12 #[cv r c b p a] w fun e w' => e = .returned (.bool v) ∧ Below w.heap.size w w' := by
  subst h; exact b_right_any r c b p a w
set_option maxHeartbeats 4000000 in
theorem b_print_no (r c b p a : Int) (w : World) (h : okC r c b p a = false) :
    Calls TryQ.prog 6 #[cv r c b p a] w fun e w' => e = .returned (.tuple #[.string ⟨#[]⟩, .int .i64 1]) ∧ Below w.heap.size w w' := by
  obtain ⟨W0, hW0⟩ : ∃ W, W = w.alloc (.cells #[.int .i64 r, .int .i64 c, .int .i64 b, .int .i64 p, .int .i64 a] 25) := ⟨_, rfl⟩
  have B0 := Lib.hid (show Below w.heap.size w W0 by rw [hW0]; exact (Below.refl _ _).alloc (Nat.le_refl _) _)
  go_enter TryQ.func6, Try.ntmps6
  go_wp2_with fail
  rw [← hW0]
  clear hW0
  go_at_call 12
  (with_reducible refine (b_right_is _ _ _ _ _ _ h _).mono ?_)
  rintro e w1 ⟨rfl, hb1⟩
  have B1 := Lib.hid (bt B0.out hb1)
  clear hb1 B0
  go_wp2_with fail
  refine bodyPost_ret (v := .tuple #[.string ⟨#[]⟩, .int .i64 1]) (by simp [results, Try.results6, go_sem]) rfl ⟨rfl, B1.out⟩
set_option maxHeartbeats 8000000 in
theorem b_print_yes (r c b p a : Int) (w : World) (h : okC r c b p a = true) :
    Calls TryQ.prog 6 #[cv r c b p a] w fun e w' => e = .returned (.tuple #[.string (cBytes r c b p a), .int .i64 0]) ∧ Below w.heap.size w w' := by
  have q1 : ∀ w, (Op.stringOp .add (strOfNums (numL 0 1)) (strOfNums (numL r 2))).run TryQ.prog w = .ok (.string (strOfNums (c1 r))) w := fun w => str_add _ _ w (by simp only [c4, c3, c2, c1, List.length_append, numL_len]; omega)
  have q2 : ∀ w, (Op.stringOp .add (strOfNums (c1 r)) (strOfNums (numL c 4))).run TryQ.prog w = .ok (.string (strOfNums (c2 r c))) w := fun w => str_add _ _ w (by simp only [c4, c3, c2, c1, List.length_append, numL_len]; omega)
  have q3 : ∀ w, (Op.stringOp .add (strOfNums (c2 r c)) (strOfNums (numL b 2))).run TryQ.prog w = .ok (.string (strOfNums (c3 r c b))) w := fun w => str_add _ _ w (by simp only [c4, c3, c2, c1, List.length_append, numL_len]; omega)
  have q4 : ∀ w, (Op.stringOp .add (strOfNums (c3 r c b)) (strOfNums (numL p 1))).run TryQ.prog w = .ok (.string (strOfNums (c4 r c b p))) w := fun w => str_add _ _ w (by simp only [c4, c3, c2, c1, List.length_append, numL_len]; omega)
  have q5 : ∀ w, (Op.stringOp .add (strOfNums (c4 r c b p)) (strOfNums (numL a 1))).run TryQ.prog w = .ok (.string (strOfNums (c5 r c b p a))) w := fun w => str_add _ _ w (by simp only [c4, c3, c2, c1, List.length_append, numL_len]; omega)
  have q6 : ∀ w, (Op.stringOp .add (strOfNums (c5 r c b p a)) (strOfNums (numL (chk r c b p a) 1))).run TryQ.prog w = .ok (.string (cBytes r c b p a)) w := fun w => str_add _ _ w (by rw [c5_len, numL_len]; omega)
  have hsz : (strOfNums (c5 r c b p a)).size = 11 := by rw [strOfNums_size, c5_len]
  obtain ⟨S, hS⟩ : ∃ S, allTo (gb (strOfNums (c5 r c b p a))) 11 = S := ⟨_, rfl⟩
  have hsum := Lib.hid (fun W => (by
    have := b_sum (strOfNums (c5 r c b p a)) (by rw [hsz]; decide) W
    rw [hsz, hS] at this
    exact this : Calls TryQ.prog 18 #[.string (strOfNums (c5 r c b p a))] W fun e w' => e = .returned (.int .i64 S) ∧ Below W.heap.size W w'))
  have hSb := allTo_bd (strOfNums (c5 r c b p a)) 11
  rw [hS] at hSb
  obtain ⟨hS0, hS1⟩ := hSb
  have hneg : numL (-S) 1 = numL (chk r c b p a) 1 := by
    rw [numL_1, numL_1]
    unfold chk
    have := allTo_mod (gb (strOfNums (c5 r c b p a))) 11
    rw [hS] at this
    congr 1
    omega
  have hby := Lib.hid (fun W => (by
    have := b_num1 (-S) W
    rw [hneg] at this
    exact this : Calls TryQ.prog 17 #[.int .i64 (-S), .int .i64 1] W fun e w' => e = .returned (.string (strOfNums (numL (chk r c b p a) 1))) ∧ Below W.heap.size W w'))
  clear hS hsz hneg
  have q6' := Lib.hid q6
  clear q6
  obtain ⟨W0, hW0⟩ : ∃ W, W = w.alloc (.cells #[.int .i64 r, .int .i64 c, .int .i64 b, .int .i64 p, .int .i64 a] 25) := ⟨_, rfl⟩
  have B0 := Lib.hid (show Below w.heap.size w W0 by rw [hW0]; exact (Below.refl _ _).alloc (Nat.le_refl _) _)
  have X0 := Lib.hid (show W0.heap[w.heap.size]? = some (.cells #[.int .i64 r, .int .i64 c, .int .i64 b, .int .i64 p, .int .i64 a] 25 (0, 0)) by rw [hW0]; exact heap_alloc_new w _)
  have L0 := Lib.hid (show w.heap.size < W0.heap.size by rw [hW0]; simp)
  go_enter TryQ.func6, Try.ntmps6
  go_wp2_with fail
  rw [← hW0]
  clear hW0
  go_at_call 12
  (with_reducible refine (b_right_is _ _ _ _ _ _ h _).mono ?_)
  rintro e w1 ⟨rfl, hb1⟩
  have B1 := Lib.hid (bt B0.out hb1)
  have X1 := (hb1.block w.heap.size L0.out).trans X0.out
  clear hb1 B0 X0 L0
  have k0 : w1.cell? ⟨w.heap.size, 0, none⟩ = some (.int .i64 r) := Joins.cell_of_block X1 0
  have k1 : w1.cell? ⟨w.heap.size, 1, none⟩ = some (.int .i64 c) := Joins.cell_of_block X1 1
  have k2 : w1.cell? ⟨w.heap.size, 2, none⟩ = some (.int .i64 b) := Joins.cell_of_block X1 2
  have k3 : w1.cell? ⟨w.heap.size, 3, none⟩ = some (.int .i64 p) := Joins.cell_of_block X1 3
  have k4 : w1.cell? ⟨w.heap.size, 4, none⟩ = some (.int .i64 a) := Joins.cell_of_block X1 4
  clear X1
  go_wp2_with fail
  have K0 := cell_regrown k0
  have K1 := cell_regrown k1
  have K2 := cell_regrown k2
  have K3 := cell_regrown k3
  have K4 := cell_regrown k4
  have n0 : ∀ q os, Calls TryQ.prog 17 #[.int .i64 0, .int .i64 1] (grow (redrawn w1 q) os) fun e w'' => e = .returned (.string (strOfNums (numL 0 1))) ∧ ∃ p : Regrown, w'' = grow (redrawn w1 p.d) p.os := fun q os => Calls.regrown_of (b_num1 0 _)
  have n1 : ∀ q os, Calls TryQ.prog 17 #[.int .i64 r, .int .i64 2] (grow (redrawn w1 q) os) fun e w'' => e = .returned (.string (strOfNums (numL r 2))) ∧ ∃ p : Regrown, w'' = grow (redrawn w1 p.d) p.os := fun q os => Calls.regrown_of (b_num2 r _)
  have n2 : ∀ q os, Calls TryQ.prog 17 #[.int .i64 c, .int .i64 4] (grow (redrawn w1 q) os) fun e w'' => e = .returned (.string (strOfNums (numL c 4))) ∧ ∃ p : Regrown, w'' = grow (redrawn w1 p.d) p.os := fun q os => Calls.regrown_of (b_num4 c _)
  have n3 : ∀ q os, Calls TryQ.prog 17 #[.int .i64 b, .int .i64 2] (grow (redrawn w1 q) os) fun e w'' => e = .returned (.string (strOfNums (numL b 2))) ∧ ∃ p : Regrown, w'' = grow (redrawn w1 p.d) p.os := fun q os => Calls.regrown_of (b_num2 b _)
  have n4 : ∀ q os, Calls TryQ.prog 17 #[.int .i64 p, .int .i64 1] (grow (redrawn w1 q) os) fun e w'' => e = .returned (.string (strOfNums (numL p 1))) ∧ ∃ p : Regrown, w'' = grow (redrawn w1 p.d) p.os := fun q os => Calls.regrown_of (b_num1 p _)
  have n5 : ∀ q os, Calls TryQ.prog 17 #[.int .i64 a, .int .i64 1] (grow (redrawn w1 q) os) fun e w'' => e = .returned (.string (strOfNums (numL a 1))) ∧ ∃ p : Regrown, w'' = grow (redrawn w1 p.d) p.os := fun q os => Calls.regrown_of (b_num1 a _)
  refine wp_region_quiet_below (by kernel_rfl) (by kernel_rfl) ?_
  repeat (first | go_big_quiet_step (first | with_reducible exact n0 _ _ | with_reducible exact n1 _ _ | with_reducible exact n2 _ _ | with_reducible exact n3 _ _ | with_reducible exact n4 _ _ | with_reducible exact n5 _ _) | quiet_step (first | with_reducible exact n0 _ _ | with_reducible exact n1 _ _ | with_reducible exact n2 _ _ | with_reducible exact n3 _ _ | with_reducible exact n4 _ _ | with_reducible exact n5 _ _))
  refine wpQuiet_nil ?_
  intro _ hw'
  obtain ⟨⟨dq, osq⟩, hw''⟩ := hw'
  subst hw''
  have hb7 := below_regrown w1 dq osq
  have B2 := Lib.hid (bt B1.out hb7)
  clear K0 K1 K2 K3 K4 k0 k1 k2 k3 k4 n0 n1 n2 n3 n4 n5 hb7 q1 q2 q3 q4 q5 B1
  generalize grow (redrawn w1 dq) osq = W7 at *
  have q6 := q6'.out
  go_wp2_with fail
  go_at_call 18
  (with_reducible refine (hsum.out _).mono ?_)
  rintro e w8 ⟨rfl, hb8⟩
  have B8 := Lib.hid (bt B2.out hb8)
  clear hb8 B2
  have v1 : IntKind.i64.wrap (-S) = -S := IntWalk.i64_in _ (by omega)
  go_wp2_with fail
  go_at_call 17
  (with_reducible refine (hby.out _).mono ?_)
  rintro e w9 ⟨rfl, hb9⟩
  have B9 := Lib.hid (bt B8.out hb9)
  clear hb9 B8
  go_wp2_with fail
  refine bodyPost_ret (v := .tuple #[.string (cBytes r c b p a), .int .i64 0]) (by simp [results, Try.results6, go_sem]) rfl ⟨rfl, B9.out⟩
end Go.Proofs.Ytlgfogllkoabpaa.QMacP
