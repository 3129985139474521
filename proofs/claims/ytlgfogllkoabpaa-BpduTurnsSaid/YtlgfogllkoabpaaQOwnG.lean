/-
  The statements' alive; what Parse and Unwrap answer, by name; equal configs.
-/
import Derived.Test.YtlgfogllkoabpaaQOwnF
import Derived.Test.YtlgfogllkoabpaaQBpduX
import Derived.Test.YtlgfogllkoabpaaQBpduR
import Derived.Test.YtlgfogllkoabpaaBx
namespace Go.Proofs.Ytlgfogllkoabpaa.QMacP
open Go.RowKit Go.Sort Go.Proofs.Ytlgfogllkoabpaa.BoxP
set_option linter.unusedVariables false
set_option linter.unusedSimpArgs false
set_option maxRecDepth 100000
theorem cBytes_lit : cBytes 1 2 3 4 5 = ⟨#[0, 0, 1, 0, 0, 0, 2, 0, 3, 4, 5, 241]⟩ := by decide +kernel
theorem eql_cfg (r c b p a : Int) (w : World) : (binOp .eql 25 (cv r c b p a) (cv r c b p a)).run TryQ.prog w = .ok (.bool true) w := by go_simp
theorem neq_cfg (r c b p a : Int) (w : World) : (binOp .neq 25 (cv r c b p a) (cv r c b p a)).run TryQ.prog w = .ok (.bool false) w := by go_simp
/-- What Parse answers, its parts named. -/
theorem parse_named (s : ByteArray) (hs : s.size ≤ maxLen) : ∃ t1 t2 t3 t4 t5 n, cTup s = .tuple #[cv t1 t2 t3 t4 t5, .int .i64 n] ∧ n = cE s ∧ (∀ w, Calls TryQ.prog 8 #[.string s] w fun e w' => e = .returned (.tuple #[cv t1 t2 t3 t4 t5, .int .i64 n]) ∧ Below w.heap.size w w') ∧ (∀ w, Calls TryQ.prog 10 #[.string s] w fun e w' => e = .returned (.tuple #[cv t1 t2 t3 t4 t5, .int .i64 n]) ∧ Below w.heap.size w w') :=
  ⟨_, _, _, _, _, _, rfl, rfl, fun w => b_parse_any s w hs, fun w => ref_cparse_any s w hs⟩
theorem unwrap_named (s : ByteArray) (hs : s.size ≤ maxLen) : ∃ t1 t2 t3 t4 t5 n, uTup s = .tuple #[cv t1 t2 t3 t4 t5, .int .i64 n] ∧ n = uE s ∧ (∀ w, Calls TryQ.prog 9 #[.string s] w fun e w' => e = .returned (.tuple #[cv t1 t2 t3 t4 t5, .int .i64 n]) ∧ Below w.heap.size w w') ∧ (∀ w, Calls TryQ.prog 11 #[.string s] w fun e w' => e = .returned (.tuple #[cv t1 t2 t3 t4 t5, .int .i64 n]) ∧ Below w.heap.size w w') :=
  ⟨_, _, _, _, _, _, rfl, rfl, fun w => b_unwrap_any s w hs, fun w => ref_unwrap_any s w hs⟩
theorem alive_print (w : World) : Calls TryQ.prog 6 #[cv 1 2 3 4 5] w fun e w' => e = .returned (.tuple #[.string ⟨#[0, 0, 1, 0, 0, 0, 2, 0, 3, 4, 5, 241]⟩, .int .i64 0]) ∧ Below w.heap.size w w' := by
  have := b_print_yes 1 2 3 4 5 w (by decide)
  rw [cBytes_lit] at this
  exact this
set_option maxHeartbeats 8000000 in
theorem alive_any (w : World) : Calls TryQ.prog 14 #[] w fun e w' => e = .returned (.bool true) ∧ Below w.heap.size w w' := by
  go_enter TryQ.func14, Try.ntmps14
  go_wp2_with fail
  go_at_call 6
  (with_reducible refine (alive_print _).mono ?_)
  rintro e w1 ⟨rfl, hb1⟩
  go_wp2_with fail
  go_ret
  exact ⟨rfl, hb1⟩
end Go.Proofs.Ytlgfogllkoabpaa.QMacP
