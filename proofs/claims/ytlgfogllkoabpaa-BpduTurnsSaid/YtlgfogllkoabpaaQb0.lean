/-
  The program in which bpdu.sum has a body of one goroutine: its tables are the program's own; its functions too, but for that one and for those that no lone walk goes through.
-/
import Derived.Test.YtlgfogllkoabpaaQa
namespace Go.Proofs
open Go.Conc Go.Proofs.Ytlgfogllkoabpaa.SimP
set_option linter.unusedVariables false
set_option maxRecDepth 100000
noncomputable def TryQ.prog : Program := qOf Try.prog (funcsQ Try.prog 18 ownSum)
namespace TryQ
section
variable (P : Program) (F : Array Func)
theorem run_typeInfo (n : TypeId) (w : World) : Sem.run (qOf P F) (typeInfo n) w = Sem.run P (typeInfo n) w := by
  have h : (qOf P F).info? n = P.info? n := rfl
  simp [typeInfo, go_sem]
  rw [h]
  cases P.info? n <;> simp [go_sem]
theorem run_underlying (n : TypeId) (w : World) : Sem.run (qOf P F) (underlying n) w = Sem.run P (underlying n) w := by
  have h := q_und P F n
  simp [underlying, go_sem]
  rw [h]
  cases P.underlying n <;> simp [go_sem]
theorem run_sizeOf (n : TypeId) (w : World) : Sem.run (qOf P F) (sizeOf n) w = Sem.run P (sizeOf n) w := by
  have h : (qOf P F).info? n = P.info? n := rfl
  simp [sizeOf, typeInfo, go_sem]
  rw [h]
  cases P.info? n <;> simp [go_sem]
theorem run_isAgg (n : TypeId) (w : World) : Sem.run (qOf P F) (isAgg n) w = Sem.run P (isAgg n) w := by
  have h := q_und P F n
  simp [isAgg, underlying, go_sem]
  rw [h]
  cases P.underlying n with
  | none => simp [go_sem]
  | some d => cases d <;> simp [go_sem]
theorem run_zeroValue (n : TypeId) (w : World) : Sem.run (qOf P F) (zeroValue n) w = Sem.run P (zeroValue n) w := by
  have h : (qOf P F).info? n = P.info? n := rfl
  simp [zeroValue, typeInfo, go_sem]
  rw [h]
  cases P.info? n with
  | none => simp [go_sem]
  | some i => cases hz : i.zero <;> simp [go_sem, hz]
theorem eqg (n : TypeId) : (qOf P F).eqGuardType (qOf P F).depth n = P.eqGuardType P.depth n := by rw [q_eqGuardType, q_depth]
end
noncomputable abbrev FQ : Array Func := funcsQ Try.prog 18 ownSum
theorem aTypeInfo (n : TypeId) (w : World) : Sem.run TryQ.prog (typeInfo n) w = Sem.run Try.prog (typeInfo n) w := run_typeInfo Try.prog FQ n w
theorem aSizeOf (n : TypeId) (w : World) : Sem.run TryQ.prog (sizeOf n) w = Sem.run Try.prog (sizeOf n) w := run_sizeOf Try.prog FQ n w
theorem aRunUnderlying (n : TypeId) (w : World) : Sem.run TryQ.prog (underlying n) w = Sem.run Try.prog (underlying n) w := run_underlying Try.prog FQ n w
theorem aIsAgg (n : TypeId) (w : World) : Sem.run TryQ.prog (isAgg n) w = Sem.run Try.prog (isAgg n) w := run_isAgg Try.prog FQ n w
theorem aZeroValue (n : TypeId) (w : World) : Sem.run TryQ.prog (zeroValue n) w = Sem.run Try.prog (zeroValue n) w := run_zeroValue Try.prog FQ n w
theorem aUnderlying (n : TypeId) : TryQ.prog.underlying n = Try.prog.underlying n := q_und Try.prog FQ n
theorem aEqg (n : TypeId) : TryQ.prog.eqGuardType TryQ.prog.depth n = Try.prog.eqGuardType Try.prog.depth n := eqg Try.prog FQ n
theorem aStoodIn (n : TypeId) : TryQ.prog.stoodInHeld n = Try.prog.stoodInHeld n := q_stoodInHeld Try.prog FQ n
theorem tab : TryQ.prog.toTables = Try.prog.toTables := rfl
theorem callQ {f : FuncId} {fn : Func} (h : TryQ.prog.funcs[f]? = some fn) (hb : fn.body.isSome = true) (hn : (fn.name == "runtime.NumGoroutine") = false) (args : Array Value) (w : World) : Sem.run TryQ.prog (callFunc f args) w = .ok (.enter f args) w := by
  show ((match TryQ.prog.funcs[f]? with | none => _ | some fn => _ : Sem Next)).run _ w = _
  rw [h]
  simp only [hn, Bool.false_eq_true, if_false]
  rw [if_neg (by cases hx : fn.body <;> simp_all)]
  rfl

end TryQ
end Go.Proofs
