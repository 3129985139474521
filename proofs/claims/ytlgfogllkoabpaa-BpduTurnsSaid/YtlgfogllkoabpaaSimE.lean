/-
  Operations that are ours ('opW'): carried out in a program whose functions have other bodies they yield the same; what they come to is a value, nothing, or the entry into a function.
-/
import Derived.Test.YtlgfogllkoabpaaSimD
import Derived.KernelRfl
namespace Go.Proofs.Ytlgfogllkoabpaa.SimP
open Go.Conc
set_option linter.unusedSimpArgs false
set_option linter.unusedVariables false
section
variable {P : Program} {F : Array Func} {α β : Type}
theorem sm_followBlind : ∀ (l : List FieldStep) (t : TypeId) (x : Option Value), Sm P F (followBlind l t x)
  | [], _, _ => Sm.pure _
  | s :: rest, t, x => by
    have ih := sm_followBlind rest
    unfold followBlind
    repeat' (first | with_reducible exact Sm.pure _ | with_reducible exact Sm.stuck _ | with_reducible exact Sm.unsupported _ | with_reducible exact Sm.goPanic _ | with_reducible exact Sm.load _ _ | with_reducible exact Sm.store _ _ _ | with_reducible exact Sm.newObj _ | with_reducible exact Sm.choose _ | with_reducible exact Sm.getObj _ | with_reducible exact Sm.setObj _ _ | with_reducible exact Sm.frozen _ | with_reducible exact Sm.noRoom | with_reducible exact sm_typeInfo _ | with_reducible exact sm_underlying _ | with_reducible exact sm_zeroValue _ | with_reducible exact sm_sizeOf _ | with_reducible exact sm_isAgg _ | with_reducible exact sm_loadCellsFrom _ _ _ _ | with_reducible exact sm_loadCells _ _ | with_reducible exact sm_storeCells _ _ _ | with_reducible exact sm_loadVar _ _ | with_reducible exact sm_storeVar _ _ _ | with_reducible exact sm_newRow _ _ | with_reducible exact sm_newVar _ _ | with_reducible exact sm_elemOf _ | with_reducible exact sm_part _ _ _ | with_reducible exact sm_runtimePanic _ | with_reducible exact sm_boundsPanic _ _ _ _ | with_reducible exact sm_asIntOf _ | with_reducible exact sm_asInt _ | with_reducible exact sm_asBool _ | with_reducible exact sm_asString _ | with_reducible exact sm_asAgg _ | with_reducible exact sm_asAddr _ | with_reducible exact sm_viewAt _ | with_reducible exact sm_numberAt _ | with_reducible exact sm_asNumber _ _ | with_reducible exact sm_behindNumber _ | with_reducible exact sm_noView _ | with_reducible exact sm_byteOf _ | with_reducible exact sm_partAt _ _ _ | with_reducible exact sm_fieldPlace _ _ | with_reducible exact sm_sureAddr _ | with_reducible exact sm_loadAt _ _ | with_reducible exact sm_storeAt _ _ _ | with_reducible exact sm_fieldAt _ _ _ | with_reducible exact sm_indexAt _ _ _ | with_reducible exact sm_sliceBound _ _ _ | with_reducible exact sm_sliceBounds _ _ _ _ _ _ | with_reducible exact sm_sliceOf _ _ _ _ _ | with_reducible exact sm_sliceAt _ _ _ _ _ | with_reducible exact sm_alloc _ _ _ | with_reducible exact sm_box _ _ | with_reducible exact sm_makeFunc _ _ _ | with_reducible exact sm_makeInterface _ _ | with_reducible exact sm_field _ _ _ | with_reducible exact sm_index _ _ _ | with_reducible exact sm_extract _ _ | with_reducible exact sm_askRoom _ | with_reducible exact sm_makeSlice _ _ _ | with_reducible exact sm_build _ _ | with_reducible exact sm_buildSlice _ _ _ | with_reducible exact sm_intArith _ _ _ _ | with_reducible exact sm_intDiv _ _ _ _ | with_reducible exact sm_intBits _ _ _ _ | with_reducible exact sm_intCmp _ _ _ | with_reducible exact sm_shift _ _ _ _ _ | with_reducible exact sm_floatArith _ _ _ _ | with_reducible exact sm_floatCmp _ _ _ _ | with_reducible exact sm_stringOp _ _ _ | with_reducible exact sm_unary _ _ | with_reducible exact sm_intToInt _ _ | with_reducible exact sm_len _ _ _ | with_reducible exact sm_cap _ _ _ | with_reducible exact sm_min2 _ _ | with_reducible exact sm_max2 _ _ | with_reducible exact sm_min _ _ _ | with_reducible exact sm_max _ _ _ | with_reducible exact sm_floatToInt _ _ _ | with_reducible exact sm_intToString _ | with_reducible exact sm_bytesToString _ | with_reducible exact sm_stringToBytes _ _ | with_reducible exact sm_lenOf _ | with_reducible exact sm_firstCells _ _ _ | with_reducible exact sm_copy _ _ _ | with_reducible exact sm_append _ _ _ | with_reducible exact sm_unsafeAdd _ _ _ | with_reducible exact sm_movedNumber _ _ _ | with_reducible exact sm_movedPointer _ _ _ | with_reducible exact sm_twoPlaces _ _ | with_reducible exact sm_addrSub _ _ _ | with_reducible exact sm_addrCmp _ _ _ | with_reducible exact sm_addrMod _ _ _ | with_reducible exact sm_carith _ _ _ _ | with_reducible exact sm_ccmp _ _ _ _ | with_reducible exact sm_f2f _ _ _ | with_reducible exact sm_cconv _ _ _ | with_reducible exact sm_cadd _ _ | with_reducible exact sm_csub _ _ | with_reducible exact sm_cmul _ _ | with_reducible exact sm_cquo _ _ | with_reducible exact sm_cprod _ _ _ _ | with_reducible exact sm_ccorr _ _ _ _ _ | with_reducible exact sm_cquot _ _ _ _ | with_reducible exact sm_complexOp _ _ _ _ _ _ | with_reducible exact ih _ _ | with_reducible refine Sm.bind ?_ (fun _ => ?_) | with_reducible refine Sm.map _ ?_ | dsimp only | split | with_reducible intro _)
theorem sm_nilAhead : ∀ (n : Nat) (t : TypeId) (v : Value) (name : String), Sm P F (nilAhead n t v name)
  | 0, _, _, _ => Sm.pure _
  | n + 1, t, v, name => by
    have ih := sm_nilAhead n
    unfold nilAhead
    repeat' (first | with_reducible exact Sm.pure _ | with_reducible exact Sm.stuck _ | with_reducible exact Sm.unsupported _ | with_reducible exact Sm.goPanic _ | with_reducible exact Sm.load _ _ | with_reducible exact Sm.store _ _ _ | with_reducible exact Sm.newObj _ | with_reducible exact Sm.choose _ | with_reducible exact Sm.getObj _ | with_reducible exact Sm.setObj _ _ | with_reducible exact Sm.frozen _ | with_reducible exact Sm.noRoom | with_reducible exact sm_typeInfo _ | with_reducible exact sm_underlying _ | with_reducible exact sm_zeroValue _ | with_reducible exact sm_sizeOf _ | with_reducible exact sm_isAgg _ | with_reducible exact sm_loadCellsFrom _ _ _ _ | with_reducible exact sm_loadCells _ _ | with_reducible exact sm_storeCells _ _ _ | with_reducible exact sm_loadVar _ _ | with_reducible exact sm_storeVar _ _ _ | with_reducible exact sm_newRow _ _ | with_reducible exact sm_newVar _ _ | with_reducible exact sm_elemOf _ | with_reducible exact sm_part _ _ _ | with_reducible exact sm_runtimePanic _ | with_reducible exact sm_boundsPanic _ _ _ _ | with_reducible exact sm_asIntOf _ | with_reducible exact sm_asInt _ | with_reducible exact sm_asBool _ | with_reducible exact sm_asString _ | with_reducible exact sm_asAgg _ | with_reducible exact sm_asAddr _ | with_reducible exact sm_viewAt _ | with_reducible exact sm_numberAt _ | with_reducible exact sm_asNumber _ _ | with_reducible exact sm_behindNumber _ | with_reducible exact sm_noView _ | with_reducible exact sm_byteOf _ | with_reducible exact sm_partAt _ _ _ | with_reducible exact sm_fieldPlace _ _ | with_reducible exact sm_sureAddr _ | with_reducible exact sm_loadAt _ _ | with_reducible exact sm_storeAt _ _ _ | with_reducible exact sm_fieldAt _ _ _ | with_reducible exact sm_indexAt _ _ _ | with_reducible exact sm_sliceBound _ _ _ | with_reducible exact sm_sliceBounds _ _ _ _ _ _ | with_reducible exact sm_sliceOf _ _ _ _ _ | with_reducible exact sm_sliceAt _ _ _ _ _ | with_reducible exact sm_alloc _ _ _ | with_reducible exact sm_box _ _ | with_reducible exact sm_makeFunc _ _ _ | with_reducible exact sm_makeInterface _ _ | with_reducible exact sm_field _ _ _ | with_reducible exact sm_index _ _ _ | with_reducible exact sm_extract _ _ | with_reducible exact sm_askRoom _ | with_reducible exact sm_makeSlice _ _ _ | with_reducible exact sm_build _ _ | with_reducible exact sm_buildSlice _ _ _ | with_reducible exact sm_intArith _ _ _ _ | with_reducible exact sm_intDiv _ _ _ _ | with_reducible exact sm_intBits _ _ _ _ | with_reducible exact sm_intCmp _ _ _ | with_reducible exact sm_shift _ _ _ _ _ | with_reducible exact sm_floatArith _ _ _ _ | with_reducible exact sm_floatCmp _ _ _ _ | with_reducible exact sm_stringOp _ _ _ | with_reducible exact sm_unary _ _ | with_reducible exact sm_intToInt _ _ | with_reducible exact sm_len _ _ _ | with_reducible exact sm_cap _ _ _ | with_reducible exact sm_min2 _ _ | with_reducible exact sm_max2 _ _ | with_reducible exact sm_min _ _ _ | with_reducible exact sm_max _ _ _ | with_reducible exact sm_floatToInt _ _ _ | with_reducible exact sm_intToString _ | with_reducible exact sm_bytesToString _ | with_reducible exact sm_stringToBytes _ _ | with_reducible exact sm_lenOf _ | with_reducible exact sm_firstCells _ _ _ | with_reducible exact sm_copy _ _ _ | with_reducible exact sm_append _ _ _ | with_reducible exact sm_unsafeAdd _ _ _ | with_reducible exact sm_movedNumber _ _ _ | with_reducible exact sm_movedPointer _ _ _ | with_reducible exact sm_twoPlaces _ _ | with_reducible exact sm_addrSub _ _ _ | with_reducible exact sm_addrCmp _ _ _ | with_reducible exact sm_addrMod _ _ _ | with_reducible exact sm_carith _ _ _ _ | with_reducible exact sm_ccmp _ _ _ _ | with_reducible exact sm_f2f _ _ _ | with_reducible exact sm_cconv _ _ _ | with_reducible exact sm_cadd _ _ | with_reducible exact sm_csub _ _ | with_reducible exact sm_cmul _ _ | with_reducible exact sm_cquo _ _ | with_reducible exact sm_cprod _ _ _ _ | with_reducible exact sm_ccorr _ _ _ _ _ | with_reducible exact sm_cquot _ _ _ _ | with_reducible exact sm_complexOp _ _ _ _ _ _ | with_reducible exact ih _ _ _ | with_reducible exact sm_followBlind _ _ _ | with_reducible refine Sm.bind ?_ (fun _ => ?_) | with_reducible refine Sm.map _ ?_ | dsimp only | split | with_reducible intro _)
/-- Comparisons that are ours. -/
def binW (P : Program) (op : BinOp) (t : TypeId) : Bool :=
  match op with
  | .eql | .neq => eqW P Op.maxDepth t
  | _ => true
theorem sm_equal {t : TypeId} (h : eqW P Op.maxDepth t = true) (x y : Value) : Sm P F (Op.equal t x y) := sm_equalIn _ _ _ _ h
set_option maxHeartbeats 4000000 in
theorem sm_binOp {op : BinOp} {t : TypeId} (h : binW P op t = true) (x y : Value) : Sm P F (binOp op t x y) := by
  have he : op = .eql ∨ op = .neq → eqW P Op.maxDepth t = true := fun e => by
    rcases e with rfl | rfl <;> exact h
  clear h
  unfold binOp
  repeat' (first | with_reducible exact Sm.pure _ | with_reducible exact Sm.stuck _ | with_reducible exact Sm.unsupported _ | with_reducible exact Sm.goPanic _ | with_reducible exact Sm.load _ _ | with_reducible exact Sm.store _ _ _ | with_reducible exact Sm.newObj _ | with_reducible exact Sm.choose _ | with_reducible exact Sm.getObj _ | with_reducible exact Sm.setObj _ _ | with_reducible exact Sm.frozen _ | with_reducible exact Sm.noRoom | with_reducible exact sm_typeInfo _ | with_reducible exact sm_underlying _ | with_reducible exact sm_zeroValue _ | with_reducible exact sm_sizeOf _ | with_reducible exact sm_isAgg _ | with_reducible exact sm_loadCellsFrom _ _ _ _ | with_reducible exact sm_loadCells _ _ | with_reducible exact sm_storeCells _ _ _ | with_reducible exact sm_loadVar _ _ | with_reducible exact sm_storeVar _ _ _ | with_reducible exact sm_newRow _ _ | with_reducible exact sm_newVar _ _ | with_reducible exact sm_elemOf _ | with_reducible exact sm_part _ _ _ | with_reducible exact sm_runtimePanic _ | with_reducible exact sm_boundsPanic _ _ _ _ | with_reducible exact sm_asIntOf _ | with_reducible exact sm_asInt _ | with_reducible exact sm_asBool _ | with_reducible exact sm_asString _ | with_reducible exact sm_asAgg _ | with_reducible exact sm_asAddr _ | with_reducible exact sm_viewAt _ | with_reducible exact sm_numberAt _ | with_reducible exact sm_asNumber _ _ | with_reducible exact sm_behindNumber _ | with_reducible exact sm_noView _ | with_reducible exact sm_byteOf _ | with_reducible exact sm_partAt _ _ _ | with_reducible exact sm_fieldPlace _ _ | with_reducible exact sm_sureAddr _ | with_reducible exact sm_loadAt _ _ | with_reducible exact sm_storeAt _ _ _ | with_reducible exact sm_fieldAt _ _ _ | with_reducible exact sm_indexAt _ _ _ | with_reducible exact sm_sliceBound _ _ _ | with_reducible exact sm_sliceBounds _ _ _ _ _ _ | with_reducible exact sm_sliceOf _ _ _ _ _ | with_reducible exact sm_sliceAt _ _ _ _ _ | with_reducible exact sm_alloc _ _ _ | with_reducible exact sm_box _ _ | with_reducible exact sm_makeFunc _ _ _ | with_reducible exact sm_makeInterface _ _ | with_reducible exact sm_field _ _ _ | with_reducible exact sm_index _ _ _ | with_reducible exact sm_extract _ _ | with_reducible exact sm_askRoom _ | with_reducible exact sm_makeSlice _ _ _ | with_reducible exact sm_build _ _ | with_reducible exact sm_buildSlice _ _ _ | with_reducible exact sm_intArith _ _ _ _ | with_reducible exact sm_intDiv _ _ _ _ | with_reducible exact sm_intBits _ _ _ _ | with_reducible exact sm_intCmp _ _ _ | with_reducible exact sm_shift _ _ _ _ _ | with_reducible exact sm_floatArith _ _ _ _ | with_reducible exact sm_floatCmp _ _ _ _ | with_reducible exact sm_stringOp _ _ _ | with_reducible exact sm_unary _ _ | with_reducible exact sm_intToInt _ _ | with_reducible exact sm_len _ _ _ | with_reducible exact sm_cap _ _ _ | with_reducible exact sm_min2 _ _ | with_reducible exact sm_max2 _ _ | with_reducible exact sm_min _ _ _ | with_reducible exact sm_max _ _ _ | with_reducible exact sm_floatToInt _ _ _ | with_reducible exact sm_intToString _ | with_reducible exact sm_bytesToString _ | with_reducible exact sm_stringToBytes _ _ | with_reducible exact sm_lenOf _ | with_reducible exact sm_firstCells _ _ _ | with_reducible exact sm_copy _ _ _ | with_reducible exact sm_append _ _ _ | with_reducible exact sm_unsafeAdd _ _ _ | with_reducible exact sm_movedNumber _ _ _ | with_reducible exact sm_movedPointer _ _ _ | with_reducible exact sm_twoPlaces _ _ | with_reducible exact sm_addrSub _ _ _ | with_reducible exact sm_addrCmp _ _ _ | with_reducible exact sm_addrMod _ _ _ | with_reducible exact sm_carith _ _ _ _ | with_reducible exact sm_ccmp _ _ _ _ | with_reducible exact sm_f2f _ _ _ | with_reducible exact sm_cconv _ _ _ | with_reducible exact sm_cadd _ _ | with_reducible exact sm_csub _ _ | with_reducible exact sm_cmul _ _ | with_reducible exact sm_cquo _ _ | with_reducible exact sm_cprod _ _ _ _ | with_reducible exact sm_ccorr _ _ _ _ _ | with_reducible exact sm_cquot _ _ _ _ | with_reducible exact sm_complexOp _ _ _ _ _ _ | with_reducible exact sm_equal (he (by simp_all)) _ _ | with_reducible refine Sm.bind ?_ (fun _ => ?_) | with_reducible refine Sm.map _ ?_ | dsimp only | split | with_reducible intro _)
/-- What an operation of ours comes to. -/
def plainNext (P : Program) : Next → Prop
  | .value _ | .skip => True
  | .enter f args => ∃ fn : Func, P.funcs[f]? = some fn ∧ args.size = fn.params.size
  | _ => False
/-- The same on both sides, and plain. -/
structure SmN (P : Program) (F : Array Func) (s : Sem Next) : Prop where
  sm : Sm P F s
  out : ∀ q es x q' es', s.runT (qOf P F) q es = (.ok x q', es') → plainNext P x
theorem SmN.value {s : Sem Value} (h : Sm P F s) : SmN P F (do Pure.pure (.value (← s))) := by
  refine ⟨Sm.bind h fun _ => Sm.pure _, fun q es x q' es' hr => ?_⟩
  have hr' : (s.bind fun v => Sem.pure (Next.value v)).runT (qOf P F) q es = (.ok x q', es') := hr
  rw [Sem.runT_bind'] at hr'
  split at hr'
  · cases hr'; trivial
  · cases hr'
theorem SmN.unit {s : Sem Unit} (h : Sm P F s) : SmN P F (do s; Pure.pure .skip) := by
  refine ⟨Sm.bind h fun _ => Sm.pure _, fun q es x q' es' hr => ?_⟩
  have hr' : (s.bind fun v => Sem.pure Next.skip).runT (qOf P F) q es = (.ok x q', es') := hr
  rw [Sem.runT_bind'] at hr'
  split at hr'
  · cases hr'; trivial
  · cases hr'
theorem SmN.pure (v : Value) : SmN P F (Pure.pure (.value v)) := ⟨Sm.pure _, fun q es x q' es' hr => by cases hr; trivial⟩
theorem SmN.bind {s : Sem α} {f : α → Sem Next} (h : Sm P F s) (hf : ∀ x, SmN P F (f x)) : SmN P F (s >>= f) := by
  refine ⟨Sm.bind h fun x => (hf x).sm, fun q es x q' es' hr => ?_⟩
  have hr' : (s.bind f).runT (qOf P F) q es = (.ok x q', es') := hr
  rw [Sem.runT_bind'] at hr'
  split at hr'
  · exact (hf _).out _ _ _ _ _ hr'
  · cases hr'
theorem SmN.of_halt {h : Halt} (hh : HOk h) : SmN P F (Sem.halt h) := ⟨Sim.halt hh _, fun q es x q' es' hr => by cases hr⟩

/-- Functions with other bodies, one for each. -/
def Bodies (P : Program) (F : Array Func) : Prop := ∀ f : FuncId, (F[f]?).map (fun (fn : Func) => { fn with body := none }) = (P.funcs[f]?).map (fun (fn : Func) => { fn with body := none }) ∧ ∀ fn : Func, F[f]? = some fn → fn.body.isSome = true

def callW (P : Program) (f : FuncId) (n : Nat) : Bool := (P.funcs[f]?).any fun fn => fn.body.isSome && !(fn.name == "runtime.NumGoroutine") && fn.params.size == n

def opW (P : Program) (o : Oper) : Bool :=
  match o.op with
  | .move _ | .assign _ | .pick .. | .alloc _ | .box .. | .build .. | .buildSlice .. | .load .. | .store .. | .nilCheck _ | .unOp .. | .makeInterface .. | .makeFunc .. | .makeSlice .. | .slice .. | .fieldAddr .. | .field ..
  | .indexAddr .. | .index .. | .extract .. => true
  | .binOp op t _ _ _ => binW P op t
  | .convert s d _ => convW P s d
  | .call c =>
    match c.callee with
    | .builtin .len | .builtin .cap | .builtin .append | .builtin .copy | .builtin .min | .builtin .max => true
    | .value (.func f) => callW P f c.args.size
    | _ => false
  | _ => false

theorem smn_callFunc (hB : Bodies P F) {f : FuncId} (args : Array Value) (h : callW P f args.size = true) : SmN P F (callFunc f args) := by
  obtain ⟨h1, h2⟩ := hB f
  unfold callW at h
  cases hp : P.funcs[f]? with
  | none => rw [hp] at h; cases h
  | some fn =>
    rw [hp] at h h1
    simp only [Option.any_some, Bool.and_eq_true, Bool.not_eq_eq_eq_not, Bool.not_true, beq_iff_eq] at h
    cases hf : F[f]? with
    | none => rw [hf] at h1; cases h1
    | some fn' =>
      rw [hf] at h1
      simp only [Option.map_some, Option.some.injEq, Func.mk.injEq] at h1
      have hn : fn'.name = fn.name := h1.1
      have hb := h2 fn' hf
      have e1 : ∀ w es, (callFunc f args).runT (qOf P F) w es = (.ok (.enter f args) w, es) := by
        intro w es
        show (match (qOf P F).funcs[f]? with | none => _ | some fn => _ : Sem Next).runT _ w es = _
        rw [show (qOf P F).funcs[f]? = some fn' from hf]
        simp only [hn, h.1.2, Bool.false_eq_true, if_false]
        rw [if_neg (by cases hx : fn'.body <;> simp_all)]
        rfl
      have e2 : ∀ w es, (callFunc f args).runT P w es = (.ok (.enter f args) w, es) := by
        intro w es
        show (match P.funcs[f]? with | none => _ | some fn => _ : Sem Next).runT _ w es = _
        rw [hp]
        simp only [h.1.2, Bool.false_eq_true, if_false]
        rw [if_neg (by cases hx : fn.body <;> simp_all)]
        rfl
      refine ⟨fun D n q p es hs => ?_, fun q es x q' es' hr => ?_⟩
      · rw [e1, e2]
        exact .still rfl rfl (Nat.le_refl _) rfl rfl hs fun e he => .inl he
      · rw [e1] at hr; cases hr; exact ⟨fn, hp, h.2.symm⟩

set_option maxHeartbeats 4000000 in
theorem smn_exec (hB : Bodies P F) {o : Oper} (h : opW P o = true) (ρ : Operand → Value) (hρ : ∀ f, ρ (.func f) = .func (.func f) #[] #[]) : SmN P F (execOp ρ o) := by
  unfold opW at h
  unfold execOp
  split at h
  all_goals first | (cases h; done) | skip
  all_goals simp only [*]
  · exact SmN.pure _
  · exact SmN.pure _
  · exact SmN.bind (sm_asBool _) fun _ => SmN.pure _
  · exact SmN.value (sm_alloc _ _ _)
  · exact SmN.value (sm_box _ _)
  · exact SmN.value (sm_build _ _)
  · exact SmN.value (sm_buildSlice _ _ _)
  · exact SmN.value (sm_loadAt _ _)
  · exact SmN.unit (sm_storeAt _ _ _)
  · split
    · exact ⟨sm_runtimePanic _, fun q es x q' es' hr => by cases hr⟩
    · exact ⟨sm_runtimePanic _, fun q es x q' es' hr => by cases hr⟩
    · exact ⟨sm_runtimePanic _, fun q es x q' es' hr => by cases hr⟩
    · split
      · exact ⟨sm_runtimePanic _, fun q es x q' es' hr => by cases hr⟩
      · refine ⟨Sm.program rfl (Sm.bind (sm_nilAhead _ _ _ _) fun _ => ?_), fun q es x q' es' hr => ?_⟩
        · split
          · exact Sm.unsupBind _ _
          · exact Sm.pure _
        · have hr' : ((nilAhead ((qOf P F).types.size + Made.depth) _ _ _).bind _).runT (qOf P F) q es = (.ok x q', es') := hr
          rw [Sem.runT_bind'] at hr'
          split at hr'
          · split at hr'
            · cases hr'
            · cases hr'; trivial
          · cases hr'
      · exact SmN.pure _
    · exact SmN.pure _
  · exact SmN.value (sm_unary _ _)
  · exact SmN.value (sm_makeInterface _ _)
  · exact SmN.value (sm_makeFunc _ _ _)
  · exact SmN.value (sm_makeSlice _ _ _)
  · exact SmN.value (sm_sliceAt _ _ _ _ _)
  · exact SmN.value (sm_fieldAt _ _ _)
  · exact SmN.value (sm_field _ _ _)
  · exact SmN.value (sm_indexAt _ _ _)
  · exact SmN.value (sm_index _ _ _)
  · exact SmN.value (sm_extract _ _)
  · exact SmN.value (Sm.bind (sm_eqGuard _ _ _ _ _ _) fun _ => sm_binOp h _ _)
  · exact SmN.value (sm_convert h _)
  · split at h
    all_goals first | (cases h; done) | skip
    all_goals rename_i hc
    all_goals unfold resolve
    all_goals rw [hc]
    · exact SmN.value (sm_len _ _ _)
    · exact SmN.value (sm_cap _ _ _)
    · exact SmN.value (sm_append _ _ _)
    · exact SmN.value (sm_copy _ _ _)
    · exact SmN.value (sm_min _ _ _)
    · exact SmN.value (sm_max _ _ _)
    · simp only [hρ]; exact smn_callFunc hB _ (by simpa using h)
end
end Go.Proofs.Ytlgfogllkoabpaa.SimP

/-
  One step of a lone goroutine whose code is ours ('codeW'), in the program with other bodies; beside it the same step in the program itself.
-/
namespace Go.Proofs.Ytlgfogllkoabpaa.SimP
open Go.Conc
set_option linter.unusedSimpArgs false
set_option linter.unusedVariables false

def codeW (P : Program) : Code → Bool
  | .skip | .exit _ | .label _ | .goto _ | .ret | .refuse _ => true
  | .region _ ops _ => ops.all (opW P)
  | .seq a b | .cond _ a b => codeW P a && codeW P b
  | .block _ c | .loop c | .scope c => codeW P c
  | .rangeFunc .. => false
def itemW (P : Program) : Item → Bool
  | .code c | .inLoop c | .inScope c => codeW P c
  | .inBlock _ => true
  | .inRegion ops _ => ops.all (opW P)
  | _ => false

/-- A frame whose code is ours. -/
structure FrW (P : Program) (fr : Frame) : Prop where
  todo : ∀ x ∈ fr.todo, itemW P x = true
  defers : fr.defers = []
  kind : fr.kind = .normal
  round : fr.roundOf = none

section
variable {P : Program} {F : Array Func}

theorem findLabel_w : ∀ {c : Code} {l : Nat} {r : Code}, findLabel c l = some r → codeW P c = true → codeW P r = true
  | .seq a b, l, r, h, hw => by
    simp only [codeW, Bool.and_eq_true] at hw
    simp only [findLabel] at h
    split at h
    · rename_i rest hr
      cases h
      simp only [codeW, Bool.and_eq_true]
      exact ⟨findLabel_w hr hw.1, hw.2⟩
    · exact findLabel_w h hw.2
  | .label _, l, r, h, hw => by
    simp only [findLabel] at h
    split at h
    · cases h; rfl
    · cases h
  | .skip, _, _, h, _ | .region .., _, _, h, _ | .cond .., _, _, h, _ | .block .., _, _, h, _ | .loop _, _, _, h, _ | .rangeFunc .., _, _, h, _ | .exit _, _, _, h, _ | .scope _, _, _, h, _ | .goto _, _, _, h, _
  | .ret, _, _, h, _ | .refuse _, _, _, h, _ => by cases h
theorem exitTo_w {id : Nat} {k' : List Item} (k : List Item) : exitTo id k = some k' → (∀ x ∈ k, itemW P x = true) → ∀ x ∈ k', itemW P x = true := by
  induction k with
  | nil => intro h; cases h
  | cons y k ih =>
    intro h hw
    have ih' := fun h => ih h fun x hx => hw x (List.mem_cons_of_mem _ hx)
    cases y with
    | inBlock id' =>
      simp only [exitTo] at h
      split at h
      · cases h; exact fun x hx => hw x (List.mem_cons_of_mem _ hx)
      · exact ih' h
    | _ => exact ih' h
theorem gotoIn_w {l : Nat} {k' : List Item} (k : List Item) : gotoIn l k = some k' → (∀ x ∈ k, itemW P x = true) → ∀ x ∈ k', itemW P x = true := by
  induction k with
  | nil => intro h; cases h
  | cons y k ih =>
    intro h hw
    have ih' := fun h => ih h fun x hx => hw x (List.mem_cons_of_mem _ hx)
    cases y with
    | inScope body =>
      simp only [gotoIn] at h
      split at h
      · rename_i rest hr
        cases h
        have hb : codeW P body = true := hw (.inScope body) (by simp)
        intro x hx
        rcases List.mem_cons.1 hx with rfl | hx
        · exact findLabel_w hr hb
        · exact hw x hx
      · exact ih' h
    | _ => exact ih' h

theorem seen_sub (X : Program) (fn : FuncId) (es : Array Event) : ∀ e ∈ Go.seen X fn es, e ∈ es := by
  unfold Go.seen
  simp only []
  have := Array.foldl_induction (as := es) (motive := fun i (r : Bool × Array Event) => ∀ e ∈ r.2, e ∈ es)
    (init := ((X.funcs[fn]?).any (·.norace), #[])) (f := fun (x : Bool × Array Event) e =>
    match x with
    | (q, kept) =>
    match e.loc with
    | .mark (.extern f) => ((X.funcs[f]?).any (·.norace), kept)
    | _ => (q, if q && !e.sync then kept else kept.push e)) (by simp) (fun i r ih => by
      obtain ⟨q, kept⟩ := r
      simp only at ih ⊢
      split
      · exact ih
      · simp only
        split
        · exact ih
        · intro e he
          rcases Array.mem_push.1 he with he | rfl
          · exact ih e he
          · exact Array.getElem_mem _)
  exact this

/-- The frame at the foot of the lone run. -/
def foot (P : Program) : Frame := { (default : Frame) with fn := P.funcs.size, tmps := #[undef], todo := [.call { target := .nil, args := #[] } false "fmt's door" #[]], defers := [], mode := .run, kind := .normal }

/-- The step ends the run. -/
def isEnded : GStep → Bool
  | .ended .. => true
  | _ => false

/-- What a step of the lone run in the other program is, and what it is in the program itself. -/
inductive Stp (P : Program) (F : Array Func) (D : Nat → Prop) (q p : World) (T : List Frame) (fr : Frame) (cs : List Frame) : Prop
  | go (fr' : Frame) (cs' : List Frame) (q' : World) (es : Array Event) (k : Nat)
      (hQ : stepG (qOf P F) true (G fr (cs ++ [foot P])) q = .go (G fr' (cs' ++ [foot P])) q' es)
      (hw : FrW P fr') (hm : fr'.mode = .run ∨ fr'.mode = .returning) (hcs : ∀ c ∈ cs', FrW P c ∧ c.mode = .run) (hl : (fr' :: cs').map (·.fn) <:+ (fr :: cs).map (·.fn)) (hd : q'.drawn = q.drawn + k) (ht : q'.tape = q.tape)
      (hP : ∀ n, SimW D n q p → k ≤ n → ∃ p' es', stepG P true (G fr (cs ++ T)) p = .go (G fr' (cs' ++ T)) p' es' ∧ p'.drawn = p.drawn + k ∧ p'.tape = p.tape ∧ SimW D (n - k) q' p' ∧ q.heap.size ≤ q'.heap.size ∧ ∀ e ∈ es', EvOk D q'.heap.size e)
  | enter (f : FuncId) (args : Array Value) (q' : World) (es : Array Event) (k : Nat)
      (hQ : stepG (qOf P F) true (G fr (cs ++ [foot P])) q = .go (G (Frame.enter (qOf P F) f args .normal) (fr :: cs ++ [foot P])) q' es) (hmr : fr.mode = .run) (hd : q'.drawn = q.drawn + k) (ht : q'.tape = q.tape)
      (hP : ∀ n, SimW D n q p → k ≤ n → ∃ p' es', stepG P true (G fr (cs ++ T)) p = .go (G (Frame.enter P f args .normal) (fr :: cs ++ T)) p' es' ∧ p'.drawn = p.drawn + k ∧ p'.tape = p.tape ∧ SimW D (n - k) q' p' ∧ q.heap.size ≤ q'.heap.size ∧ ∀ e ∈ es', EvOk D q'.heap.size e) (hn : ∃ fn : Func, P.funcs[f]? = some fn ∧ args.size = fn.params.size)
  | dead (fr' : Frame) (ch : List PanicEntry) (q' : World) (es : Array Event) (hQ : stepG (qOf P F) true (G fr (cs ++ [foot P])) q = .go (G fr' (cs ++ [foot P])) q' es) (hm : fr'.mode = .panicking ch) (hd : fr'.defers = [])
  | stop (hQ : isEnded (stepG (qOf P F) true (G fr (cs ++ [foot P])) q) = true)
  | last (v : Value) (q' : World) (es : Array Event) (k : Nat) (hc : cs = [])
      (hQ : stepG (qOf P F) true (G fr [foot P]) q = .go (G ((foot P).finish v) []) q' es) (hmr : fr.mode = .returning) (hd : q'.drawn = q.drawn + k) (ht : q'.tape = q.tape)
      (hP : ∀ n, SimW D n q p → k ≤ n → ∃ p' es', p' = p ∧ (T = [] → P.inits.idxOf? fr.fn = none → stepG P true (G fr []) p = .ended (.done v) p' es') ∧ (T = [foot P] → stepG P true (G fr [foot P]) p = .go (G ((foot P).finish v) []) p' es') ∧ p'.drawn = p.drawn + k ∧ p'.tape = p.tape ∧ SimW D (n - k) q' p' ∧ q.heap.size ≤ q'.heap.size ∧ ∀ e ∈ es', EvOk D q'.heap.size e)

variable {T : List Frame}
theorem finish_fn (c : Frame) (v : Value) : (c.finish v).fn = c.fn := by
  unfold Frame.finish
  split <;> rfl
theorem Stp.move {D : Nat → Prop} {q p : World} {fr : Frame} {cs : List Frame} (hcs : ∀ c ∈ cs, FrW P c ∧ c.mode = .run) (fr' : Frame) (hw : FrW P fr') (hm : fr'.mode = .run ∨ fr'.mode = .returning)
    (h : ∀ (X : Program) (cs : List Frame) (w : World), stepG X true (G fr cs) w = .go (G fr' cs) w) (hf : fr'.fn = fr.fn := by rfl) : Stp P F D q p T fr cs :=
  .go fr' cs q #[] 0 (h _ _ _) hw hm hcs (by simp [hf]) rfl rfl fun n hs _ => ⟨p, #[], h P (cs ++ T) p, rfl, rfl, hs, Nat.le_refl _, by simp⟩

theorem early_stop {X : Program} (hso : ∀ g, X.stepOf g = none) (hfo : X.follows .staticDataAhead = true) (fr : Frame) (cs : List Frame) (g : Nat) (w : World) : early X fr cs none g w = .ended (.unsupported (.initOrder g) (fr.pos X)) w := by
  simp only [early, hfo, hso, Bool.not_true, Bool.false_eq_true, if_false]

theorem Stp.apply (hso : ∀ g, (qOf P F).stepOf g = none) (hfo : P.follows .staticDataAhead = true) {D : Nat → Prop} {q p : World} (hs : SimW D 0 q p) {fr : Frame} {cs : List Frame}
    (hw : FrW P fr) (hm : fr.mode = .run) (hcs : ∀ c ∈ cs, FrW P c ∧ c.mode = .run) {s : Sem Next} (h : SmN P F s) {ops : Array Oper} {i : Nat} {rest : List Nat} {k : List Item} (htodo : fr.todo = .inRegion ops (i :: rest) :: k)
    (hfin : ∀ v, FrW P (fr.finish v) ∧ (fr.finish v).mode = .run)
    (hX : ∀ (X : Program) (cs : List Frame) (w : World), stepG X true (G fr cs) w = stepG.apply X true fr cs none s w) : Stp P F D q p T fr cs := by
  have hk : fr.kind = .normal := hw.kind
  have hk' : (fr.kind == CallKind.early) = false := by rw [hk]; rfl
  have hA := fun n hs => h.sm D n q p #[] hs
  have hO := h.out q #[]
  have hX1 := hX (qOf P F) (cs ++ [foot P]) q
  have hX2 := hX P (cs ++ T) p
  unfold stepG.apply at hX1 hX2
  simp only [htodo, hk', if_true, Bool.false_eq_true, if_false] at hX1 hX2
  revert hA hO hX1
  cases s.runT (qOf P F) q #[] with
  | mk r es =>
    cases r with
    | halt y q' =>
      intro hA hO hX1
      cases y with
      | panic v =>
        simp only [GStep.after] at hX1
        exact .dead _ [{ v, recovered := false }] q' _ hX1 (by simp [Frame.raise, hm]) (by simp only [Frame.raise, hm]; exact hw.defers)
      | stuck x => exact .stop (by rw [hX1]; rfl)
      | unsupported u =>
        refine .stop ?_
        rw [hX1]
        cases u <;> simp [GStep.after, early_stop hso hfo, isEnded]
      | _ => exact (hA 0 hs).elim
    | ok x q' =>
      intro hA hO hX1
      obtain ⟨kk, h1, h2, h3, _⟩ := hA 0 hs
      have hpl := hO x q' es rfl
      cases x with
      | value v =>
        simp only [GStep.after] at hX1
        refine .go (fr.finish v) cs q' _ kk hX1 (hfin v).1 (.inl (hfin v).2) hcs (by simp [finish_fn]) h1 h2 fun n hsn hkn => ?_
        obtain ⟨k', h1', _, _, h4⟩ := hA n hsn
        obtain rfl : k' = kk := by omega
        obtain ⟨p', hr, g1, g2, g3, g4⟩ := h4 hkn
        rw [hr] at hX2
        simp only [GStep.after] at hX2
        exact ⟨p', _, hX2, g1, g2, g3, h3, fun e he => (g4 e (seen_sub _ _ _ e (by simpa using he))).resolve_left (by simp)⟩
      | skip =>
        simp only [GStep.after] at hX1
        refine .go (fr.finish undef) cs q' _ kk hX1 (hfin _).1 (.inl (hfin _).2) hcs (by simp [finish_fn]) h1 h2 fun n hsn hkn => ?_
        obtain ⟨k', h1', _, _, h4⟩ := hA n hsn
        obtain rfl : k' = kk := by omega
        obtain ⟨p', hr, g1, g2, g3, g4⟩ := h4 hkn
        rw [hr] at hX2
        simp only [GStep.after] at hX2
        exact ⟨p', _, hX2, g1, g2, g3, h3, fun e he => (g4 e (seen_sub _ _ _ e (by simpa using he))).resolve_left (by simp)⟩
      | enter f args =>
        simp only [GStep.after] at hX1
        refine .enter f args q' _ kk hX1 hm h1 h2 (fun n hsn hkn => ?_) hpl
        obtain ⟨k', h1', _, _, h4⟩ := hA n hsn
        obtain rfl : k' = kk := by omega
        obtain ⟨p', hr, g1, g2, g3, g4⟩ := h4 hkn
        rw [hr] at hX2
        simp only [GStep.after] at hX2
        exact ⟨p', _, hX2, g1, g2, g3, h3, fun e he => (g4 e (seen_sub _ _ _ e (by simpa using he))).resolve_left (by simp)⟩
      | _ => exact hpl.elim

/-- One step in the running mode. -/
theorem step_run (hB : Bodies P F) (hso : ∀ g, (qOf P F).stepOf g = none) (hfo : P.follows .staticDataAhead = true) {D : Nat → Prop} {q p : World} (hs : SimW D 0 q p) {fr : Frame} {cs : List Frame} (hw : FrW P fr) (hm : fr.mode = .run)
    (hcs : ∀ c ∈ cs, FrW P c ∧ c.mode = .run) : Stp P F D q p T fr cs := by
  obtain ⟨fn, tmps, todo, defers, mode, kind, round⟩ := fr
  obtain ⟨hw1, hw2, hw3, hw4⟩ := hw
  simp only at hw1 hw2 hw3 hw4 hm
  subst hw2 hw3 hw4 hm
  have mk : ∀ {t : List Item} {k : List Item}, (∀ x ∈ t, itemW P x = true) → FrW P { fn, tmps, todo := t, defers := [], mode := .run, kind := .normal, roundOf := none } := fun h => ⟨h, rfl, rfl, rfl⟩
  cases todo with
  | nil => exact .move hcs { fn, tmps, todo := [], defers := [], mode := .returning, kind := .normal, roundOf := none } ⟨hw1, rfl, rfl, rfl⟩ (.inr rfl) fun X cs w => by simp [stepG, stepG.exec, G]
  | cons y k =>
    have hy := hw1 y (by simp)
    have hk : ∀ x ∈ k, itemW P x = true := fun x hx => hw1 x (by simp [hx])
    have to : ∀ (t : List Item), (∀ x ∈ t, itemW P x = true) →
        (∀ (X : Program) (cs : List Frame) (w : World), stepG X true (G { fn, tmps, todo := y :: k, defers := [], mode := .run, kind := .normal, roundOf := none } cs) w = .go (G { fn, tmps, todo := t, defers := [], mode := .run, kind := .normal, roundOf := none } cs) w) →
        Stp P F D q p T { fn, tmps, todo := y :: k, defers := [], mode := .run, kind := .normal, roundOf := none } cs :=
      fun t ht h => .move hcs _ ⟨ht, rfl, rfl, rfl⟩ (.inl rfl) h
    cases y with
    | inRangeFunc _ => cases hy
    | endRangeFunc _ => cases hy
    | beginRound => cases hy
    | call => cases hy
    | extern => cases hy
    | inBlock id => exact to k hk fun X cs w => by simp [stepG, stepG.exec, G]
    | inScope c => exact to k hk fun X cs w => by simp [stepG, stepG.exec, G]
    | inLoop c => exact to (.code c :: .inLoop c :: k) (by simp_all [itemW]) fun X cs w => by simp [stepG, stepG.exec, G]
    | inRegion ops l =>
      cases l with
      | nil => exact to k hk fun X cs w => by simp [stepG, stepG.exec, G]
      | cons i rest =>
        have hops : ops.all (opW P) = true := hy
        by_cases hwn : ((ops[i]?).map (Region.wanted · (yielded ops tmps))).getD false = true
        · cases ho : ops[i]? with
          | none => rw [ho] at hwn; cases hwn
          | some o =>
            have hw1' : opW P o = true := by
              obtain ⟨hi, rfl⟩ := Array.getElem?_eq_some_iff.1 ho
              exact (Array.all_eq_true.1 hops) i hi
            have hfr : FrW P { fn, tmps, todo := .inRegion ops (i :: rest) :: k, defers := [], mode := .run, kind := .normal, roundOf := none } := ⟨hw1, rfl, rfl, rfl⟩
            refine Stp.apply hso hfo hs hfr rfl hcs (smn_exec hB hw1' (Frame.eval { fn, tmps, todo := .inRegion ops (i :: rest) :: k, defers := [], mode := .run, kind := .normal, roundOf := none }) fun f => rfl) rfl
              (fun v => ⟨⟨fun x hx => ?_, rfl, rfl, rfl⟩, rfl⟩) fun X cs w => ?_
            · rcases List.mem_cons.1 hx with rfl | hx
              · exact hops
              · exact hk x hx
            · simp only [stepG, stepG.exec, stepG.oper, G, Frame.oper?, ho, Option.map_some, Option.getD_some] at hwn ⊢
              simp only [hwn, if_true]
        · refine .move hcs { fn, tmps := match (ops[i]?).bind (·.dst) with | some d => tmps.setIfInBounds d undef | none => tmps, todo := .inRegion ops rest :: k, defers := [], mode := .run, kind := .normal, roundOf := none } ⟨fun x hx => ?_, rfl, rfl, rfl⟩ (.inl rfl) fun X cs w => ?_
          · rcases List.mem_cons.1 hx with rfl | hx
            · exact hops
            · exact hk x hx
          · simp only [stepG, stepG.exec, G, hwn, Frame.finish]
            rfl
    | code c =>
      have hc : codeW P c = true := hy
      cases c with
      | rangeFunc => cases hc
      | skip => exact to k hk fun X cs w => by simp [stepG, stepG.exec, G]
      | label => exact to k hk fun X cs w => by simp [stepG, stepG.exec, G]
      | ret => exact .move hcs { fn, tmps, todo := .code .ret :: k, defers := [], mode := .returning, kind := .normal, roundOf := none } ⟨hw1, rfl, rfl, rfl⟩ (.inr rfl) fun X cs w => by simp [stepG, stepG.exec, G]
      | seq a b =>
        simp only [codeW, Bool.and_eq_true] at hc
        exact to (.code a :: .code b :: k) (by simp_all [itemW]) fun X cs w => by simp [stepG, stepG.exec, G]
      | block id c => exact to (.code c :: .inBlock id :: k) (by simp_all [itemW, codeW]) fun X cs w => by simp [stepG, stepG.exec, G]
      | loop c => exact to (.code c :: .inLoop c :: k) (by simp_all [itemW, codeW]) fun X cs w => by simp [stepG, stepG.exec, G]
      | scope c => exact to (.code c :: .inScope c :: k) (by simp_all [itemW, codeW]) fun X cs w => by simp [stepG, stepG.exec, G]
      | refuse why => exact .stop (by simp [isEnded, stepG, stepG.exec, G])
      | cond c a b =>
        simp only [codeW, Bool.and_eq_true] at hc
        cases hv : Frame.eval { fn, tmps, todo := .code (.cond c a b) :: k, defers := [], mode := .run, kind := .normal, roundOf := none } c with
        | bool t => exact to (.code (if t then a else b) :: k) (by cases t <;> simp_all [itemW]) fun X cs w => by simp [stepG, stepG.exec, G, hv]
        | _ => exact .stop (by simp [isEnded, stepG, stepG.exec, G, hv])
      | exit id =>
        cases he : exitTo id k with
        | some k' => exact to k' (exitTo_w k he hk) fun X cs w => by simp [stepG, stepG.exec, G, he]
        | none => exact .stop (by simp [isEnded, stepG, stepG.exec, G, he])
      | goto l =>
        cases he : gotoIn l k with
        | some k' => exact to k' (gotoIn_w k he hk) fun X cs w => by simp [stepG, stepG.exec, G, he]
        | none => exact .stop (by simp [isEnded, stepG, stepG.exec, G, he])
      | region id ops draw =>
        cases draw with
        | false => exact to (.inRegion ops (List.range ops.size) :: k) (by simp_all [itemW, codeW]) fun X cs w => by simp [stepG, stepG.exec, G]
        | true =>
          have hX : ∀ (X : Program) (cs : List Frame) (w : World), X.follows .mixedOrders = P.follows .mixedOrders → stepG X true (G { fn, tmps, todo := .code (.region id ops true) :: k, defers := [], mode := .run, kind := .normal, roundOf := none } cs) w =
              .go (G { fn, tmps, todo := .inRegion ops (Region.schedule (P.follows .mixedOrders) ops (w.tape w.drawn (.order fn id))) :: k, defers := [], mode := .run, kind := .normal, roundOf := none } cs) { w with drawn := w.drawn + 1 } := by
            intro X cs w hf
            simp [stepG, stepG.exec, G, run_choose, Question.forced, Question.cut, hf]
          refine .go _ cs _ _ 1 (hX _ _ _ rfl) ⟨fun x hx => ?_, rfl, rfl, rfl⟩ (.inl rfl) hcs (by simp) rfl rfl fun n hs hkn => ?_
          · rcases List.mem_cons.1 hx with rfl | hx
            · exact hc
            · exact hk x hx
          · have ht := hs.tape 0 (.order fn id) (by omega)
            simp only [Nat.add_zero] at ht
            rw [ht]
            exact ⟨_, #[], hX P (cs ++ T) p rfl, rfl, rfl, hs.drew, Nat.le_refl _, by simp⟩

theorem finish_w {c : Frame} (h : FrW P c) (hm : c.mode = .run) (v : Value) : FrW P (c.finish v) ∧ (c.finish v).mode = .run := by
  obtain ⟨fn, tmps, todo, defers, mode, kind, round⟩ := c
  obtain ⟨h1, h2, h3, h4⟩ := h
  simp only at h1 h2 h3 h4 hm
  subst h2 h3 h4 hm
  cases todo with
  | nil => exact ⟨⟨h1, rfl, rfl, rfl⟩, rfl⟩
  | cons y k =>
    have hy := h1 y (by simp)
    have hk : ∀ x ∈ k, itemW P x = true := fun x hx => h1 x (by simp [hx])
    cases y with
    | inRangeFunc _ => cases hy
    | endRangeFunc _ => cases hy
    | beginRound => cases hy
    | call => cases hy
    | extern => cases hy
    | inRegion ops l =>
      cases l with
      | nil => exact ⟨⟨h1, rfl, rfl, rfl⟩, rfl⟩
      | cons i rest =>
        refine ⟨⟨fun x hx => ?_, rfl, rfl, rfl⟩, rfl⟩
        rcases List.mem_cons.1 hx with rfl | hx
        · exact hy
        · exact hk x hx
    | _ => exact ⟨⟨h1, rfl, rfl, rfl⟩, rfl⟩

theorem sm_results (fn : Func) (tmps : Array Value) : Sm P F (results fn tmps) := by
  unfold results
  refine Sm.bind (sm_mapM _ _ fun r => ?_) fun vs => Sm.pure _
  split
  · exact Sm.pure _
  · exact Sm.bind (sm_asAddr _) fun _ => sm_loadVar _ _

/-- What leaves the world as it is. -/
def Keeps {α : Type} (s : Sem α) : Prop := ∀ (X : Program) (w : World) (es : Array Event) (x : α) (w' : World) (es' : Array Event), s.runT X w es = (.ok x w', es') → w' = w
theorem Keeps.pure {α : Type} (x : α) : Keeps (Pure.pure x) := fun X w es y w' es' h => by cases h; rfl
theorem Keeps.bind {α β : Type} {s : Sem α} {f : α → Sem β} (h : Keeps s) (hf : ∀ x, Keeps (f x)) : Keeps (s >>= f) := by
  intro X w es x w' es' hr
  have hr' : (s.bind f).runT X w es = (.ok x w', es') := hr
  rw [Sem.runT_bind'] at hr'
  split at hr'
  · rename_i a w1 e1 h1
    exact (hf _ X w1 e1 x w' es' hr').trans (h X w es a w1 e1 h1)
  · cases hr'
theorem Keeps.load (a : Addr) (m : Mode) : Keeps (Go.load a m) := by
  intro X w es x w' es' hr
  simp only [Go.load, Sem.runT] at hr
  split at hr
  · cases hr; rfl
  · split at hr
    · cases hr; rfl
    · cases hr
theorem Keeps.program {α : Type} {f : Program → Sem α} (h : ∀ p, Keeps (f p)) : Keeps (Go.program >>= f) := fun X w es x w' es' hr => h X X w es x w' es' hr
theorem Keeps.stuck {α : Type} (x : String) : Keeps (Go.stuck x : Sem α) := fun X w es y w' es' h => by cases h
theorem keep_foldlM {α β : Type} (f : β → α → Sem β) (hf : ∀ b a, Keeps (f b a)) : ∀ (l : List α) (b : β), Keeps (l.foldlM f b)
  | [], b => Keeps.pure b
  | a :: l, b => by rw [List.foldlM_cons]; exact Keeps.bind (hf b a) fun b' => keep_foldlM f hf l b'
theorem keep_typeInfo (t : TypeId) : Keeps (typeInfo t) := by
  unfold typeInfo
  refine Keeps.program fun p => ?_
  split
  · exact Keeps.pure _
  · exact Keeps.stuck _
theorem keep_underlying (t : TypeId) : Keeps (Go.underlying t) := by
  unfold Go.underlying
  refine Keeps.program fun p => ?_
  split
  · exact Keeps.pure _
  · exact Keeps.stuck _
theorem keep_loadCellsFrom (a : Addr) : ∀ (n i : Nat) (acc : Array Value), Keeps (loadCellsFrom a i n acc)
  | 0, _, _ => Keeps.pure _
  | n + 1, i, acc => by
    unfold loadCellsFrom
    exact Keeps.bind (Keeps.load _ _) fun _ => keep_loadCellsFrom a n (i + 1) _
theorem keep_isAgg (t : TypeId) : Keeps (isAgg t) := by
  unfold isAgg
  refine Keeps.bind (keep_underlying t) fun d => ?_
  split <;> exact Keeps.pure _
theorem keep_loadVar (t : TypeId) (a : Addr) : Keeps (loadVar t a) := by
  unfold loadVar
  refine Keeps.bind (keep_isAgg t) fun b => ?_
  split
  · refine Keeps.bind ?_ fun n => Keeps.bind (keep_loadCellsFrom _ _ _ _) fun _ => Keeps.pure _
    unfold sizeOf
    exact Keeps.bind (keep_typeInfo t) fun _ => Keeps.pure _
  · exact Keeps.load _ _
theorem keep_asAddr (v : Value) : Keeps (asAddr v) := by
  unfold asAddr
  split
  · exact Keeps.pure _
  · intro X w es y w' es' h; cases h
  · exact Keeps.stuck _
theorem keep_results (fn : Func) (tmps : Array Value) : Keeps (results fn tmps) := by
  unfold results
  refine Keeps.bind ?_ fun vs => Keeps.pure _
  rw [Array.mapM_eq_foldlM, ← Array.foldlM_toList]
  refine keep_foldlM _ (fun b r => Keeps.bind ?_ fun _ => Keeps.pure _) _ _
  split
  · exact Keeps.pure _
  · exact Keeps.bind (keep_asAddr _) fun _ => keep_loadVar _ _

/-- One step in the returning mode. -/
theorem step_ret (hB : Bodies P F) {D : Nat → Prop} {q p : World} (hs : SimW D 0 q p) {fr : Frame} {cs : List Frame} (hw : FrW P fr) (hm : fr.mode = .returning)
    (hcs : ∀ c ∈ cs, FrW P c ∧ c.mode = .run) : Stp P F D q p T fr cs := by
  obtain ⟨fn, tmps, todo, defers, mode, kind, round⟩ := fr
  obtain ⟨hw1, hw2, hw3, hw4⟩ := hw
  simp only at hw1 hw2 hw3 hw4 hm
  subst hw2 hw3 hw4 hm
  -- what a return of v is
  have key : ∀ (v : Value) (q' : World) (es : Array Event) (k : Nat), q'.drawn = q.drawn + k → q'.tape = q.tape → q.heap.size ≤ q'.heap.size →
      (∀ cs, stepG (qOf P F) true (G { fn, tmps, todo, defers := [], mode := .returning, kind := .normal, roundOf := none } cs) q = GStep.after es (doReturn (qOf P F) true { fn, tmps, todo, defers := [], mode := .returning, kind := .normal, roundOf := none } cs none v q')) →
      (∀ n, SimW D n q p → k ≤ n → ∃ p' es', (∀ cs, stepG P true (G { fn, tmps, todo, defers := [], mode := .returning, kind := .normal, roundOf := none } cs) p = GStep.after es' (doReturn P true { fn, tmps, todo, defers := [], mode := .returning, kind := .normal, roundOf := none } cs none v p')) ∧
        p' = p ∧ p'.drawn = p.drawn + k ∧ p'.tape = p.tape ∧ SimW D (n - k) q' p' ∧ ∀ e ∈ es', EvOk D q'.heap.size e) →
      Stp P F D q p T { fn, tmps, todo, defers := [], mode := .returning, kind := .normal, roundOf := none } cs := by
    intro v q' es k h1 h2 h3 hQ hP
    cases cs with
    | nil =>
      refine .last v q' (es ++ #[]) k rfl ((hQ [foot P]).trans ?_) rfl h1 h2 fun n hsn hkn => ?_
      · simp only [doReturn, GStep.after, G]
      · obtain ⟨p', es', g1, g0, g2, g3, g4, g5⟩ := hP n hsn hkn
        refine ⟨p', es' ++ #[], g0, fun _ hin => (g1 []).trans ?_, fun _ => (g1 [foot P]).trans ?_, g2, g3, g4, h3, by simpa using g5⟩
        · have hin' : P.inits.idxOf? fn = none := hin
          simp only [doReturn, GStep.after, Bool.not_true, Bool.false_eq_true, if_false, hin']
        · simp only [doReturn, GStep.after, G]
    | cons c cs =>
      obtain ⟨hc, hcm⟩ := hcs c (by simp)
      refine .go (c.finish v) cs q' (es ++ #[]) k ((hQ (c :: (cs ++ [foot P]))).trans ?_) (finish_w hc hcm v).1 (.inl (finish_w hc hcm v).2) (fun x hx => hcs x (by simp [hx])) (by simp [finish_fn]) h1 h2 fun n hsn hkn => ?_
      · simp only [doReturn, GStep.after, G]
      · obtain ⟨p', es', g1, g0, g2, g3, g4, g5⟩ := hP n hsn hkn
        refine ⟨p', es' ++ #[], (g1 (c :: (cs ++ T))).trans ?_, g2, g3, g4, h3, by simpa using g5⟩
        simp only [doReturn, GStep.after, G]
  obtain ⟨hb1, hb2⟩ := hB fn
  cases hf : F[fn]? with
  | none =>
    have hp : P.funcs[fn]? = none := by
      rw [hf] at hb1
      cases hp : P.funcs[fn]? with
      | none => rfl
      | some x => rw [hp] at hb1; cases hb1
    have hf' : (qOf P F).funcs[fn]? = none := hf
    refine key (tmps.getD 0 undef) q #[] 0 rfl rfl (Nat.le_refl _) (fun cs => ?_) fun n hsn _ => ⟨p, #[], fun cs => ?_, rfl, rfl, rfl, hsn, by simp⟩
    · simp only [stepG, G, unwind, hf']
      generalize doReturn _ _ _ _ _ _ _ = z
      cases z <;> simp [GStep.after]
    · simp only [stepG, G, unwind, hp]
      generalize doReturn _ _ _ _ _ _ _ = z
      cases z <;> simp [GStep.after]
  | some fn' =>
    have hf' : (qOf P F).funcs[fn]? = some fn' := hf
    cases hp : P.funcs[fn]? with
    | none => rw [hf, hp] at hb1; cases hb1
    | some f0 =>
      rw [hf, hp] at hb1
      simp only [Option.map_some, Option.some.injEq, Func.mk.injEq] at hb1
      have hres : results fn' tmps = results f0 tmps := by unfold results; rw [hb1.2.2.2.2.2.2.2.1]
      have hA := fun n hs => (sm_results (P := P) (F := F) f0 tmps) D n q p #[] hs
      have hQ : ∀ cs, stepG (qOf P F) true (G { fn, tmps, todo, defers := [], mode := .returning, kind := .normal, roundOf := none } cs) q =
          GStep.after (Go.seen (qOf P F) fn ((results f0 tmps).runT (qOf P F) q #[]).2) (match ((results f0 tmps).runT (qOf P F) q #[]).1 with
            | .ok v w => doReturn (qOf P F) true { fn, tmps, todo, defers := [], mode := .returning, kind := .normal, roundOf := none } cs none v w
            | .halt (.stuck s) w => .ended (.stuck s (Frame.pos (qOf P F) { fn, tmps, todo, defers := [], mode := .returning, kind := .normal, roundOf := none })) w
            | .halt _ w => .ended (.stuck "return: the result variables cannot be read" (Frame.pos (qOf P F) { fn, tmps, todo, defers := [], mode := .returning, kind := .normal, roundOf := none })) w) := by
        intro cs
        simp only [stepG, G, unwind, hf', hres]
        generalize (results f0 tmps).runT (qOf P F) q #[] = z
        obtain ⟨r, es⟩ := z
        cases r with
        | ok => rfl
        | halt y w => cases y <;> rfl
      have hP : ∀ cs, stepG P true (G { fn, tmps, todo, defers := [], mode := .returning, kind := .normal, roundOf := none } cs) p =
          GStep.after (Go.seen P fn ((results f0 tmps).runT P p #[]).2) (match ((results f0 tmps).runT P p #[]).1 with
            | .ok v w => doReturn P true { fn, tmps, todo, defers := [], mode := .returning, kind := .normal, roundOf := none } cs none v w
            | .halt (.stuck s) w => .ended (.stuck s (Frame.pos P { fn, tmps, todo, defers := [], mode := .returning, kind := .normal, roundOf := none })) w
            | .halt _ w => .ended (.stuck "return: the result variables cannot be read" (Frame.pos P { fn, tmps, todo, defers := [], mode := .returning, kind := .normal, roundOf := none })) w) := by
        intro cs
        simp only [stepG, G, unwind, hp]
        generalize (results f0 tmps).runT P p #[] = z
        obtain ⟨r, es⟩ := z
        cases r with
        | ok => rfl
        | halt y w => cases y <;> rfl
      revert hA hQ hP
      cases (results f0 tmps).runT (qOf P F) q #[] with
      | mk r es =>
        cases r with
        | halt y q' =>
          intro hA hQ hP
          refine .stop ?_
          rw [hQ]
          cases y <;> simp [GStep.after, isEnded]
        | ok v q' =>
          intro hA hQ hP
          obtain ⟨k, h1, h2, h3, _⟩ := hA 0 hs
          refine key v q' _ k h1 h2 h3 (fun cs => hQ cs) fun n hsn hkn => ?_
          obtain ⟨k', h1', _, _, h4⟩ := hA n hsn
          obtain rfl : k' = k := by omega
          obtain ⟨p', hr, g1, g2, g3, g4⟩ := h4 hkn
          rw [hr] at hP
          exact ⟨p', _, fun cs => hP cs, keep_results f0 tmps _ _ _ _ _ _ hr, g1, g2, g3, fun e he => (g4 e (seen_sub _ _ _ e he)).resolve_left (by simp)⟩

/-- One step. -/
theorem step_w (hB : Bodies P F) (hso : ∀ g, (qOf P F).stepOf g = none) (hfo : P.follows .staticDataAhead = true) {D : Nat → Prop} {q p : World} (hs : SimW D 0 q p) {fr : Frame} {cs : List Frame} (hw : FrW P fr) (hm : fr.mode = .run ∨ fr.mode = .returning)
    (hcs : ∀ c ∈ cs, FrW P c ∧ c.mode = .run) : Stp P F D q p T fr cs :=
  hm.elim (fun hm => step_run hB hso hfo hs hw hm hcs) fun hm => step_ret hB hs hw hm hcs
end
end Go.Proofs.Ytlgfogllkoabpaa.SimP

/-
  Lone runs in the program with other bodies: what is reached on every tape is reached by steps of which there is no infinite row.
-/
namespace Go.Proofs.Ytlgfogllkoabpaa.SimP
open Go.Conc
set_option linter.unusedSimpArgs false
set_option linter.unusedVariables false

/-- What is asked of the other bodies. -/
structure Twin (P : Program) (F : Array Func) : Prop where
  bodies : Bodies P F
  size : F.size = P.funcs.size
  noStep : ∀ g, (qOf P F).stepOf g = none
  follow : P.follows .staticDataAhead = true
  white : ∀ (f : FuncId) (fn : Func), F[f]? = some fn → ∃ c, fn.body = some c ∧ codeW P c = true

section
variable {P : Program} {F : Array Func}

theorem q_eqW : ∀ d t, eqW (qOf P F) d t = eqW P d t
  | 0, _ => rfl
  | d + 1, t => by simp only [eqW, q_und, q_eqW d]
theorem q_convW (s d : TypeId) : convW (qOf P F) s d = convW P s d := by simp only [convW, q_und]
theorem q_binW (op : BinOp) (t : TypeId) : binW (qOf P F) op t = binW P op t := by simp only [binW, q_eqW]
theorem q_callW (hB : Bodies P F) {f : FuncId} {n : Nat} (h : callW P f n = true) : callW (qOf P F) f n = true := by
  obtain ⟨h1, h2⟩ := hB f
  unfold callW at h ⊢
  show (F[f]?).any _ = true
  cases hp : P.funcs[f]? with
  | none => rw [hp] at h; cases h
  | some fn =>
    rw [hp] at h h1
    cases hf : F[f]? with
    | none => rw [hf] at h1; cases h1
    | some fn' =>
      rw [hf] at h1
      simp only [Option.map_some, Option.some.injEq, Func.mk.injEq] at h1
      simp only [Option.any_some, Bool.and_eq_true] at h ⊢
      have hn : fn'.name = fn.name := h1.1
      have hpz : fn'.params = fn.params := by simp_all
      exact ⟨⟨h2 _ hf, by rw [hn]; exact h.1.2⟩, by rw [hpz]; exact h.2⟩
theorem q_opW (hB : Bodies P F) {o : Oper} (h : opW P o = true) : opW (qOf P F) o = true := by
  unfold opW at h ⊢
  cases ho : o.op
  all_goals simp only [ho] at h ⊢
  all_goals first | (cases h; done) | (rw [q_binW]; exact h) | (rw [q_convW]; exact h) | skip
  rename_i c
  cases hc : c.callee with
  | builtin b => simp only [hc] at h ⊢; cases b <;> first | rfl | (cases h; done)
  | invoke r m => simp only [hc] at h; cases h
  | value x =>
    cases x with
    | func f => simp only [hc] at h ⊢; exact q_callW hB h
    | _ => simp only [hc] at h; cases h
theorem q_codeW (hB : Bodies P F) : ∀ {c : Code}, codeW P c = true → codeW (qOf P F) c = true
  | .skip, _ | .exit _, _ | .label _, _ | .goto _, _ | .ret, _ | .refuse _, _ => rfl
  | .region _ ops _, h => by
    simp only [codeW, Array.all_eq_true] at h ⊢
    exact fun i hi => q_opW hB (h i hi)
  | .seq a b, h => by
    simp only [codeW, Bool.and_eq_true] at h ⊢
    exact ⟨q_codeW hB h.1, q_codeW hB h.2⟩
  | .cond _ a b, h => by
    simp only [codeW, Bool.and_eq_true] at h ⊢
    exact ⟨q_codeW hB h.1, q_codeW hB h.2⟩
  | .block _ c, h => q_codeW (c := c) hB h
  | .loop c, h => q_codeW (c := c) hB h
  | .scope c, h => q_codeW (c := c) hB h
theorem q_itemW (hB : Bodies P F) {x : Item} (h : itemW P x = true) : itemW (qOf P F) x = true := by
  cases x with
  | code c => exact q_codeW (c := c) hB h
  | inLoop c => exact q_codeW (c := c) hB h
  | inScope c => exact q_codeW (c := c) hB h
  | inBlock => rfl
  | inRegion ops l =>
    simp only [itemW, Array.all_eq_true] at h ⊢
    exact fun i hi => q_opW hB (h i hi)
  | _ => cases h
theorem FrW.q (hB : Bodies P F) {fr : Frame} (h : FrW P fr) : FrW (qOf P F) fr := ⟨fun x hx => q_itemW hB (h.todo x hx), h.defers, h.kind, h.round⟩
theorem Twin.q (h : Twin P F) : Twin (qOf P F) F := ⟨fun f => ⟨rfl, (h.bodies f).2⟩, rfl, h.noStep, h.follow, fun f fn hf => let ⟨c, h1, h2⟩ := h.white f fn hf; ⟨c, h1, q_codeW h.bodies h2⟩⟩
theorem Twin.foot (h : Twin P F) : foot (qOf P F) = foot P := by
  unfold SimP.foot
  rw [show (qOf P F).funcs.size = P.funcs.size from h.size]

/-- The world with another tape, read from its beginning. -/
def wt (w : World) (τ : Nat → Question → Nat) (d : Nat) : World := { w with tape := τ, drawn := d }

/-- Frames that are ours. -/
structure St (P : Program) (fr : Frame) (cs : List Frame) : Prop where
  top : FrW P fr
  mode : fr.mode = .run ∨ fr.mode = .returning
  below : ∀ c ∈ cs, FrW P c ∧ c.mode = .run

abbrev NoD : Nat → Prop := fun _ => False

theorem lone_next {X : Program} {fr fr' : Frame} {cs cs' : List Frame} {w w' : World} {es : Array Event} (h : stepG X true (G fr cs) w = .go (G fr' cs') w' es) : step X (lone fr cs w) = .next (lone fr' cs' w') :=
  step_lone_go (by
    have : stepG X true { frame := fr, callers := cs, status := .running, dying := none } w = .go (G fr' cs') w' es := h
    rw [this]; rfl)
theorem lone_ended {X : Program} {fr : Frame} {cs : List Frame} {w : World} (h : isEnded (stepG X true (G fr cs) w) = true) : ∃ o w', step X (lone fr cs w) = .ended o w' := by
  cases hs : stepG X true (G fr cs) w with
  | ended o w' es =>
    refine ⟨o, w', step_lone_ended ?_⟩
    have : stepG X true { frame := fr, callers := cs, status := .running, dying := none } w = .ended o w' es := hs
    rw [this]; rfl
  | _ => rw [hs] at h; cases h

/-- The end of the lone run. -/
def Tgt (P : Program) (R : Value → World → Prop) (m : Machine) : Prop := ∃ v w', m = lone ((foot P).finish v) [] w' ∧ R v w'

theorem tgt_ended {R : Value → World → Prop} {m : Machine} (X : Program) (h : Tgt P R m) : ∃ o w', step X m = .ended o w' := by
  obtain ⟨v, w', rfl, _⟩ := h
  refine lone_ended ?_
  have : Extern.next "fmt's door" = none := by kernel_rfl
  simp [isEnded, stepG, stepG.exec, G, foot, Frame.finish, this]

theorem tgt_last {R : Value → World → Prop} {m m' : Machine} {X : Program} (h : Tgt P R m) {k : Nat} (hr : runN X k m = .next m') : k = 0 ∧ m' = m := by
  cases k with
  | zero => simp [runN] at hr; exact ⟨rfl, hr.symm⟩
  | succ k =>
    obtain ⟨o, w', he⟩ := tgt_ended X h
    simp [runN, he] at hr

theorem not_tgt {R : Value → World → Prop} {fr : Frame} {cs : List Frame} {w : World} (h : cs ≠ []) : ¬ Tgt P R (lone fr cs w) := by
  rintro ⟨v, w', he, _⟩
  simp only [lone, Machine.mk.injEq] at he
  have := congrArg (fun (gs : Array Goroutine) => (gs[0]?).map (·.callers)) he.2.1
  simp at this
  exact h this

/-- Whoever panics never comes to the end. -/
theorem dead_run (X : Program) (hz : X.funcs.size = P.funcs.size) {R : Value → World → Prop} : ∀ (cs : List Frame) (fr : Frame) (ch : List PanicEntry) (w : World), fr.mode = .panicking ch → fr.defers = [] → (∀ c ∈ cs, FrW P c ∧ c.mode = .run) →
    ∀ N m, runN X N (lone fr (cs ++ [foot P]) w) = .next m → ¬ Tgt P R m := by
  have foot_step : ∀ (ch : List PanicEntry) (w : World), isEnded (stepG X true (G ((foot P).raise ch) []) w) = true := by
    intro ch w
    have h1 : X.funcs[P.funcs.size]? = none := by rw [← hz]; simp
    have h2 : ("fmt's door" : String).startsWith "fmt's door" = true := by kernel_rfl
    simp [isEnded, stepG, G, foot, Frame.raise, unwind, Frame.catches, h1, h2]
  intro cs
  induction cs with
  | nil =>
    intro fr ch w hm hd hcs N m hr
    cases N with
    | zero => simp [runN] at hr; subst hr; exact not_tgt (by simp)
    | succ N =>
      by_cases hc : fr.catches X = true
      · obtain ⟨o, w', he⟩ := lone_ended (X := X) (fr := fr) (cs := [foot P]) (w := w) (by simp [isEnded, stepG, G, unwind, hm, hd, hc])
        simp [runN, he] at hr
      · have hs : step X (lone fr [foot P] w) = .next (lone ((foot P).raise ch) [] w) := lone_next (es := #[]) (by simp [stepG, G, unwind, hm, hd, hc])
        simp only [List.nil_append, runN, hs] at hr
        cases N with
        | zero =>
          simp [runN] at hr
          subst hr
          rintro ⟨v, w', he, _⟩
          simp only [lone, Machine.mk.injEq] at he
          have := congrArg (fun (gs : Array Goroutine) => (gs[0]?).map (·.frame.mode)) he.2.1
          simp [foot, Frame.raise, Frame.finish] at this
        | succ N =>
          obtain ⟨o, w', he⟩ := lone_ended (foot_step ch w)
          simp [runN, he] at hr
  | cons c cs ih =>
    intro fr ch w hm hd hcs N m hr
    cases N with
    | zero => simp [runN] at hr; subst hr; exact not_tgt (by simp)
    | succ N =>
      by_cases hc : fr.catches X = true
      · obtain ⟨o, w', he⟩ := lone_ended (X := X) (fr := fr) (cs := c :: (cs ++ [foot P])) (w := w) (by simp [isEnded, stepG, G, unwind, hm, hd, hc])
        simp only [List.cons_append, runN, he] at hr
        cases hr
      · have hs : step X (lone fr (c :: (cs ++ [foot P])) w) = .next (lone (c.raise ch) (cs ++ [foot P]) w) := lone_next (es := #[]) (by simp [stepG, G, unwind, hm, hd, hc])
        simp only [List.cons_append, runN, hs] at hr
        obtain ⟨hcw, hcm⟩ := hcs c (by simp)
        exact ih (c.raise ch) ch w (by simp [Frame.raise, hcm]) (by simp [Frame.raise, hcm, hcw.defers]) (fun x hx => hcs x (by simp [hx])) N m hr

/-- On every tape the lone run comes to the end, and all is well. -/
def Reach (P : Program) (F : Array Func) (R : Value → World → Prop) (fr : Frame) (cs : List Frame) (w : World) : Prop :=
  ∀ τ, ∃ N m, runN (qOf P F) N (lone fr (cs ++ [foot P]) (wt w τ 0)) = .next m ∧ Tgt P R m

/-- Whatever the tape. -/
def Tapeless (R : Value → World → Prop) : Prop := ∀ v w τ d, R v w → R v (wt w τ d)

theorem eq_of_simW {n : Nat} {q p : World} (h : SimW NoD n q p) : p = wt q p.tape p.drawn := by
  obtain ⟨h1, h2, h3, h4, h5, h6⟩ := h
  obtain ⟨qh, qt, qd, qo, qu⟩ := q
  obtain ⟨ph, pt, pd, po, pu⟩ := p
  simp only at h1 h2 h3 h4
  have : qh = ph := Array.ext_getElem? fun i => h4 i (fun h => h)
  subst this h1 h2
  rfl
theorem simW_wt {w : World} {τ σ : Nat → Question → Nat} {d e n : Nat} (h : ∀ i x, i < n → τ (d + i) x = σ (e + i) x) : SimW NoD n (wt w τ d) (wt w σ e) :=
  ⟨rfl, rfl, rfl, fun _ _ => rfl, fun _ h => h.elim, h⟩

/-- A step of the same program, the tape being another one behind the answers that the step takes. -/
theorem step_same (hT : Twin P F) {fr : Frame} {cs : List Frame} (hS : St (qOf P F) fr cs) {w : World} {τ σ : Nat → Question → Nat} {d e : Nat} {fr' : Frame} {cs' : List Frame} {q' : World} {es : Array Event}
    (hQ : stepG (qOf P F) true (G fr (cs ++ [foot P])) (wt w τ d) = .go (G fr' cs') q' es) (ht : ∀ i x, d + i < q'.drawn → τ (d + i) x = σ (e + i) x) :
    (∃ k es', q'.drawn = d + k ∧ q'.tape = τ ∧ stepG (qOf P F) true (G fr (cs ++ [foot P])) (wt w σ e) = .go (G fr' cs') (wt q' σ (e + k)) es') ∨ ∃ ch, fr'.mode = .panicking ch ∧ fr'.defers = [] ∧ cs' = cs ++ [foot P] := by
  have hs0 : SimW NoD 0 (wt w τ d) (wt w σ e) := simW_wt fun i x hi => absurd hi (Nat.not_lt_zero _)
  have hstep := step_w (P := qOf P F) (F := F) (T := [foot P]) hT.q.bodies hT.q.noStep hT.q.follow hs0 hS.top hS.mode hS.below
  have hqq : qOf (qOf P F) F = qOf P F := rfl
  cases hstep with
  | go fr1 cs1 q1 es1 k hQ1 hw hm hcs hl hd htp hP =>
    rw [hqq, hT.foot, hQ] at hQ1
    simp only [GStep.go.injEq, G, Goroutine.mk.injEq] at hQ1
    obtain ⟨⟨rfl, rfl, -⟩, rfl, rfl⟩ := hQ1
    obtain ⟨p', es', g1, g2, g3, g4, _⟩ := hP k (simW_wt fun i x hi => ht i x (by rw [hd]; show d + i < d + k; omega)) (Nat.le_refl _)
    refine .inl ⟨k, es', hd, htp, ?_⟩
    have := eq_of_simW g4
    rw [g3, g2] at this
    rw [g1, this]; rfl
  | enter f args q1 es1 k hQ1 hmr hd htp hP hn =>
    rw [hqq, hT.foot, hQ] at hQ1
    simp only [GStep.go.injEq, G, Goroutine.mk.injEq] at hQ1
    obtain ⟨⟨rfl, rfl, -⟩, rfl, rfl⟩ := hQ1
    obtain ⟨p', es', g1, g2, g3, g4, _⟩ := hP k (simW_wt fun i x hi => ht i x (by rw [hd]; show d + i < d + k; omega)) (Nat.le_refl _)
    refine .inl ⟨k, es', hd, htp, ?_⟩
    have := eq_of_simW g4
    rw [g3, g2] at this
    rw [g1, this]; rfl
  | dead fr1 ch q1 es1 hQ1 hm hd =>
    rw [hqq, hT.foot, hQ] at hQ1
    simp only [GStep.go.injEq, G, Goroutine.mk.injEq] at hQ1
    obtain ⟨⟨rfl, rfl, -⟩, rfl, rfl⟩ := hQ1
    exact .inr ⟨ch, hm, hd, rfl⟩
  | stop hQ1 => rw [hqq, hT.foot, hQ] at hQ1; cases hQ1
  | last v q1 es1 k hc hQ1 hmr hd htp hP =>
    subst hc
    rw [hqq, hT.foot] at hQ1
    have hQ' : stepG (qOf P F) true (G fr [foot P]) (wt w τ d) = .go (G fr' cs') q' es := hQ
    rw [hQ'] at hQ1
    simp only [GStep.go.injEq, G, Goroutine.mk.injEq] at hQ1
    obtain ⟨⟨rfl, rfl, -⟩, rfl, rfl⟩ := hQ1
    obtain ⟨p', es', _, _, g1, g2, g3, g4, _⟩ := hP k (simW_wt fun i x hi => ht i x (by rw [hd]; show d + i < d + k; omega)) (Nat.le_refl _)
    refine .inl ⟨k, es', hd, htp, ?_⟩
    have := eq_of_simW g4
    rw [g3, g2] at this
    have g1' := g1 (by rw [hT.foot])
    rw [hT.foot] at g1'
    show stepG (qOf P F) true (G fr [foot P]) (wt w σ e) = _
    rw [g1', this]; rfl

theorem St.q (hT : Twin P F) {fr : Frame} {cs : List Frame} (h : St P fr cs) : St (qOf P F) fr cs := ⟨h.top.q hT.bodies, h.mode, fun c hc => ⟨(h.below c hc).1.q hT.bodies, (h.below c hc).2⟩⟩

theorem enter_w {f : FuncId} {args : Array Value} {fn : Func} {c : Code} (h : F[f]? = some fn) (hb : fn.body = some c) (hc : codeW P c = true) : FrW P (Frame.enter (qOf P F) f args .normal) := by
  refine ⟨fun x hx => ?_, rfl, rfl, rfl⟩
  have h' : (qOf P F).funcs[f]? = some fn := h
  simp only [Frame.enter, h', Option.bind_some, hb, Option.getD_some, List.mem_singleton] at hx
  subst hx; exact hc
/-- Where a step leads to whose frames are ours again. -/
theorem enter_stQ (hT : Twin P F) {f : FuncId} {args : Array Value} {fr : Frame} {cs : List Frame} (hS : St (qOf P F) fr cs) (hm : fr.mode = .run) : St (qOf P F) (Frame.enter (qOf P F) f args .normal) (fr :: cs) := by
  refine ⟨?_, .inl rfl, fun c hc => ?_⟩
  · cases hf : F[f]? with
    | some fn =>
      obtain ⟨c, h1, h2⟩ := hT.q.white f fn hf
      exact enter_w (P := qOf P F) hf h1 h2
    | none =>
      refine ⟨fun x hx => ?_, rfl, rfl, rfl⟩
      have h' : (qOf P F).funcs[f]? = none := hf
      simp only [Frame.enter, h', Option.bind_none, Option.getD_none, List.mem_singleton] at hx
      subst hx; rfl
  · rcases List.mem_cons.1 hc with rfl | hc
    · exact ⟨hS.top, hm⟩
    · exact hS.below c hc

/-- A lone run goes on as it would on another tape whose answers are the same from there on. -/
theorem shift (hT : Twin P F) {R : Value → World → Prop} (hR : Tapeless R) : ∀ (N : Nat) (fr : Frame) (cs : List Frame) (w : World) (τ σ : Nat → Question → Nat) (d e : Nat) (m : Machine), St (qOf P F) fr cs → (∀ i x, τ (d + i) x = σ (e + i) x) →
    runN (qOf P F) N (lone fr (cs ++ [foot P]) (wt w τ d)) = .next m → Tgt P R m → ∃ N' m', runN (qOf P F) N' (lone fr (cs ++ [foot P]) (wt w σ e)) = .next m' ∧ Tgt P R m' := by
  intro N
  induction N with
  | zero =>
    intro fr cs w τ σ d e m hS ht hr hm
    simp [runN] at hr; subst hr
    exact absurd hm (not_tgt (by simp))
  | succ N ih =>
    intro fr cs w τ σ d e m hS ht hr hm
    have hs0 : SimW NoD 0 (wt w τ d) (wt w σ e) := simW_wt fun i x hi => absurd hi (Nat.not_lt_zero _)
    have hstep := step_w (P := qOf P F) (F := F) (T := [foot P]) hT.q.bodies hT.q.noStep hT.q.follow hs0 hS.top hS.mode hS.below
    have hqq : qOf (qOf P F) F = qOf P F := rfl
    cases hstep with
    | go fr1 cs1 q1 es1 k hQ1 hw hm1 hcs hl hd htp hP =>
      rw [hqq, hT.foot] at hQ1
      obtain ⟨p', es', g1, g2, g3, g4, _⟩ := hP k (simW_wt fun i x hi => ht i x) (Nat.le_refl _)
      have e1 := eq_of_simW g4
      rw [g3, g2] at e1
      have e2 : q1 = wt q1 τ (d + k) := by
        have : q1.tape = τ := htp
        have h2 : q1.drawn = d + k := hd
        rw [← this, ← h2]; rfl
      have e3 : p' = wt q1 σ (e + k) := e1
      simp only [runN, lone_next hQ1] at hr
      rw [e2] at hr
      obtain ⟨N', m', h1, h2⟩ := ih fr1 cs1 q1 τ σ (d + k) (e + k) m ⟨hw, hm1, hcs⟩ (fun i x => by have := ht (k + i) x; rwa [← Nat.add_assoc, ← Nat.add_assoc] at this) hr hm
      refine ⟨N' + 1, m', ?_, h2⟩
      simp only [runN, lone_next g1]
      rw [e3]; exact h1
    | enter f args q1 es1 k hQ1 hmr hd htp hP hn =>
      rw [hqq, hT.foot] at hQ1
      obtain ⟨p', es', g1, g2, g3, g4, _⟩ := hP k (simW_wt fun i x hi => ht i x) (Nat.le_refl _)
      have e1 := eq_of_simW g4
      rw [g3, g2] at e1
      have e2 : q1 = wt q1 τ (d + k) := by
        have : q1.tape = τ := htp
        have h2 : q1.drawn = d + k := hd
        rw [← this, ← h2]; rfl
      have e3 : p' = wt q1 σ (e + k) := e1
      simp only [runN, lone_next hQ1] at hr
      rw [e2] at hr
      obtain ⟨N', m', h1, h2⟩ := ih _ (fr :: cs) q1 τ σ (d + k) (e + k) m (enter_stQ hT hS hmr) (fun i x => by have := ht (k + i) x; rwa [← Nat.add_assoc, ← Nat.add_assoc] at this) hr hm
      refine ⟨N' + 1, m', ?_, h2⟩
      simp only [runN, lone_next g1]
      rw [e3]; exact h1
    | dead fr1 ch q1 es1 hQ1 hm1 hd =>
      rw [hqq, hT.foot] at hQ1
      simp only [runN, lone_next hQ1] at hr
      exact absurd hm (by
        have := dead_run (P := qOf P F) (R := R) (qOf P F) rfl cs fr1 ch q1 hm1 hd hS.below N m (by rw [hT.foot]; exact hr)
        rintro ⟨v, w', h1, h2⟩
        exact this ⟨v, w', by rw [hT.foot]; exact h1, h2⟩)
    | stop hQ1 =>
      rw [hqq, hT.foot] at hQ1
      obtain ⟨o, w', he⟩ := lone_ended hQ1
      simp [runN, he] at hr
    | last v q1 es1 k hc hQ1 hmr hd htp hP =>
      subst hc
      rw [hqq, hT.foot] at hQ1
      obtain ⟨p', es', _, _, g1, g2, g3, g4, _⟩ := hP k (simW_wt fun i x hi => ht i x) (Nat.le_refl _)
      have e1 := eq_of_simW g4
      have g1' := g1 (by rw [hT.foot])
      rw [hT.foot] at g1'
      have hr1 : runN (qOf P F) (N + 1) (lone fr [foot P] (wt w τ d)) = .next m := hr
      simp only [runN, lone_next hQ1] at hr1
      obtain ⟨v', w', rfl, hv⟩ := hm
      have hN : N = 0 := by
        cases N with
        | zero => rfl
        | succ N =>
          obtain ⟨o, w'', he⟩ := tgt_ended (P := P) (R := fun _ _ => True) (qOf P F) ⟨v, q1, rfl, trivial⟩
          simp [runN, he] at hr1
      subst hN
      simp only [runN, Stepped.next.injEq] at hr1
      have hf : (foot P).finish v = (foot P).finish v' ∧ q1 = w' := by
        simp only [lone, Machine.mk.injEq] at hr1
        have := congrArg (fun (gs : Array Goroutine) => (gs[0]?).map (·.frame)) hr1.2.1
        simp at this
        exact ⟨this, hr1.1⟩
      have hvv : v = v' := by
        have := congrArg Frame.todo hf.1
        simpa [foot, Frame.finish] using this
      obtain ⟨_, rfl⟩ := hf
      subst hvv
      refine ⟨1, _, ?_, v, p', rfl, ?_⟩
      · show runN (qOf P F) 1 (lone fr [foot P] (wt w σ e)) = _
        simp only [runN, lone_next g1']
      · rw [e1]; exact hR _ _ _ _ hv
end
end Go.Proofs.Ytlgfogllkoabpaa.SimP

/-
  No infinite row of steps leads on from what reaches the end on every tape; a function may be passed over by one big step.
-/
namespace Go.Proofs.Ytlgfogllkoabpaa.SimP
open Go.Conc
set_option linter.unusedSimpArgs false
set_option linter.unusedVariables false

/-- A function that is passed over: whatever the world, it comes to its value, leaves the memory as 'eff' says, and asks the tape nothing. -/
structure Leap (P : Program) (F : Array Func) (s : FuncId) (pre : Array Value → Prop) (val : Array Value → Value) (eff : World → World) : Prop where
  calls : ∀ args u, pre args → Calls (qOf P F) s args u fun e u' => e = .returned (val args) ∧ u' = eff u
  wt : ∀ w τ d, eff (wt w τ d) = wt (eff w) τ d

section
variable {P : Program} {F : Array Func} {s : FuncId} {pre : Array Value → Prop} {val : Array Value → Value} {eff : World → World}

structure Cfg where
  fr : Frame
  cs : List Frame
  w : World

inductive Nx (P : Program) (F : Array Func) (s : FuncId) (pre : Array Value → Prop) (val : Array Value → Value) (eff : World → World) : Cfg → Cfg → Prop
  | step {fr : Frame} {cs : List Frame} {w : World} {τ : Nat → Question → Nat} {fr' : Frame} {cs' : List Frame} {q' : World} {es : Array Event} (hS : St (qOf P F) fr cs) (hS' : St (qOf P F) fr' cs')
      (hQ : stepG (qOf P F) true (G fr (cs ++ [foot P])) (SimP.wt w τ 0) = .go (G fr' (cs' ++ [foot P])) q' es) : Nx P F s pre val eff ⟨fr', cs', q'⟩ ⟨fr, cs, w⟩
  | leap {fr : Frame} {cs : List Frame} {w : World} {args : Array Value} (ha : pre args) : Nx P F s pre val eff ⟨fr.finish (val args), cs, eff w⟩ ⟨Frame.enter (qOf P F) s args .normal, fr :: cs, w⟩

def Cfg.m (P : Program) (c : Cfg) (τ : Nat → Question → Nat) (d : Nat) : Machine := lone c.fr (c.cs ++ [foot P]) (SimP.wt c.w τ d)

theorem runN_of_steps {X : Program} {m m' : Machine} (h : Steps X m m') : ∃ N, runN X N m = .next m' := h

/-- What one step (big or small) takes of the tape, it takes of any tape that has the same answers there. -/
theorem Nx.link (hT : Twin P F) (hL : Leap P F s pre val eff) {b a : Cfg} (h : Nx P F s pre val eff b a) :
    ∃ (τ : Nat → Question → Nat) (k : Nat), ∀ (σ : Nat → Question → Nat) (e : Nat), (∀ i x, i < k → τ i x = σ (e + i) x) → ∃ M, 1 ≤ M ∧ runN (qOf P F) M (a.m P σ e) = .next (b.m P σ (e + k)) := by
  cases h with
  | @step fr cs w τ fr' cs' q' es hS hS' hQ =>
    refine ⟨τ, q'.drawn, fun σ e hσ => ?_⟩
    rcases step_same hT (w := w) (d := 0) (e := e) (σ := σ) hS hQ (fun i x hi => by rw [Nat.zero_add] at hi ⊢; exact hσ i x hi) with ⟨k, es', h1, h2, h3⟩ | ⟨ch, h1, _, _⟩
    · rw [Nat.zero_add] at h1
      subst h1
      exact ⟨1, Nat.le_refl _, by simp only [Cfg.m, runN, lone_next h3]⟩
    · rcases hS'.mode with h | h <;> rw [h] at h1 <;> cases h1
  | @leap fr cs w args ha =>
    refine ⟨fun _ _ => 0, 0, fun σ e _ => ?_⟩
    obtain ⟨en, u', fr1, ⟨rfl, rfl⟩, hc, hfn, hlv⟩ := hL.calls args (SimP.wt w σ e) ha (fr :: (cs ++ [foot P]))
    obtain ⟨M, hM⟩ := runN_of_steps (X := qOf P F) hc
    refine ⟨M + 1, by omega, ?_⟩
    have hstep := step_leave_returned (c := fr) (cs := cs ++ [foot P]) hlv
    show runN (qOf P F) (M + 1) (lone (Frame.enter (qOf P F) s args .normal) (fr :: (cs ++ [foot P])) (SimP.wt w σ e)) = _
    rw [hL.wt] at hstep hM
    rw [runN_add, hM]
    simp only [runN, hstep]
    rfl

/-- .. and the end is still reached on every tape. -/
theorem Nx.reach (hT : Twin P F) (hL : Leap P F s pre val eff) {R : Value → World → Prop} (hR : Tapeless R) {b a : Cfg} (h : Nx P F s pre val eff b a) (hb : St (qOf P F) b.fr b.cs) (ha : Reach P F R a.fr a.cs a.w) : Reach P F R b.fr b.cs b.w := by
  obtain ⟨τ, k, hl⟩ := h.link hT hL
  intro τ'
  let σ : Nat → Question → Nat := fun i x => if i < k then τ i x else τ' (i - k) x
  obtain ⟨M, _, hM⟩ := hl σ 0 (fun i x hi => by simp [σ, hi])
  obtain ⟨N, m, hN, hm⟩ := ha σ
  have hN' : runN (qOf P F) N (a.m P σ 0) = .next m := hN
  rw [Nat.zero_add] at hM
  rcases Nat.lt_or_ge N M with hlt | hge
  · have : M = N + (M - N) := by omega
    rw [this, runN_add, hN'] at hM
    have := (tgt_last hm hM).1
    omega
  · have : N = M + (N - M) := by omega
    rw [this, runN_add, hM] at hN'
    have hs : ∀ (i : Nat) (x : Question), σ (k + i) x = τ' (0 + i) x := by
      intro i x
      have h1 : ¬ k + i < k := by omega
      have h2 : k + i - k = 0 + i := by omega
      simp only [σ, if_neg h1, h2]
    exact shift hT hR (N - M) b.fr b.cs b.w σ τ' k 0 m hb hs hN' hm

/-- No infinite row. -/
theorem Nx.acc (hT : Twin P F) (hL : Leap P F s pre val eff) {R : Value → World → Prop} {a : Cfg} (ha : Reach P F R a.fr a.cs a.w) : Acc (Nx P F s pre val eff) a := by
  apply Classical.byContradiction
  intro hna
  -- an infinite row
  have hnext : ∀ c : { c : Cfg // ¬ Acc (Nx P F s pre val eff) c }, ∃ b : { c : Cfg // ¬ Acc (Nx P F s pre val eff) c }, Nx P F s pre val eff b.1 c.1 := by
    rintro ⟨c, hc⟩
    apply Classical.byContradiction
    intro hno
    exact hc ⟨_, fun b hb => Classical.byContradiction fun hb' => hno ⟨⟨b, hb'⟩, hb⟩⟩
  let nxt := fun c => Classical.choose (hnext c)
  have hnxt : ∀ c, Nx P F s pre val eff (nxt c).1 c.1 := fun c => Classical.choose_spec (hnext c)
  let f : Nat → { c : Cfg // ¬ Acc (Nx P F s pre val eff) c } := fun n => Nat.rec ⟨a, hna⟩ (fun _ c => nxt c) n
  have hlink := fun n => (hnxt (f n)).link hT hL
  let τs := fun n => Classical.choose (hlink n)
  have hτ := fun n => Classical.choose_spec (hlink n)
  let ks : Nat → Nat := fun n => Classical.choose (hτ n)
  have hk := fun n => Classical.choose_spec (hτ n)
  let d : Nat → Nat := fun n => Nat.rec 0 (fun i acc => acc + ks i) n
  have d0 : d 0 = 0 := rfl
  have ds : ∀ n, d (n + 1) = d n + ks n := fun n => rfl
  have dm : ∀ n m, n ≤ m → d n ≤ d m := by
    intro n m h
    induction h with
    | refl => exact Nat.le_refl _
    | step _ ih => rw [Nat.succ_eq_add_one, ds]; omega
  have du : ∀ n m i, d n ≤ i → i < d (n + 1) → d m ≤ i → i < d (m + 1) → n = m := by
    intro n m i h1 h2 h3 h4
    rcases Nat.lt_trichotomy n m with h | h | h
    · have := dm (n + 1) m h; omega
    · exact h
    · have := dm (m + 1) n h; omega
  let σ : Nat → Question → Nat := fun i x => open Classical in if h : ∃ n, d n ≤ i ∧ i < d (n + 1) then τs (Classical.choose h) (i - d (Classical.choose h)) x else 0
  have hσ : ∀ n j x, j < ks n → τs n j x = σ (d n + j) x := by
    intro n j x hj
    have hex : ∃ m, d m ≤ d n + j ∧ d n + j < d (m + 1) := ⟨n, by omega, by rw [ds]; omega⟩
    have hc := Classical.choose_spec hex
    have hn : Classical.choose hex = n := du _ _ (d n + j) hc.1 hc.2 (by omega) (by rw [ds]; omega)
    simp only [σ]
    rw [dif_pos hex, hn, Nat.add_sub_cancel_left]
  have hrun : ∀ n, ∃ M, n ≤ M ∧ runN (qOf P F) M (a.m P σ 0) = .next ((f n).1.m P σ (d n)) := by
    intro n
    induction n with
    | zero => exact ⟨0, Nat.le_refl _, rfl⟩
    | succ n ih =>
      obtain ⟨M, h1, h2⟩ := ih
      obtain ⟨M', h3, h4⟩ := hk n σ (d n) (fun j x hj => hσ n j x hj)
      refine ⟨M + M', by omega, ?_⟩
      rw [runN_add, h2]
      exact h4
  obtain ⟨N, m, hN, hm⟩ := ha σ
  obtain ⟨M, h1, h2⟩ := hrun (N + 1)
  have hN' : runN (qOf P F) N (a.m P σ 0) = .next m := hN
  have : M = N + (M - N) := by omega
  rw [this, runN_add, hN'] at h2
  have := (tgt_last hm h2).1
  omega
end
end Go.Proofs.Ytlgfogllkoabpaa.SimP

/-
  Beside leavers: the machine of many goroutines, all but goroutine 0 only leaving, follows the lone run in the program with other bodies; where that passes over a function, the machine carries it out.
-/
namespace Go.Proofs.Ytlgfogllkoabpaa.SimP
open Go.Conc
open Go.ConcN (sumTo upd sumTo_upd upd_ne upd_same)
set_option linter.unusedSimpArgs false
set_option linter.unusedVariables false

section
variable {P : Program} {F : Array Func}

theorem ops_g {g : Nat} {fn : FuncId} {pos : String} {es : Array Event} : ∀ op ∈ MemOp.ofEvents g fn pos es, op.g = g := by
  intro op hop
  rw [ofEvents_eq] at hop
  obtain ⟨e, _, rfl⟩ := Array.mem_map.1 hop
  rfl

theorem leavers_own {t : Trace} {gs : Array Goroutine} {q : Nat → Nat} (hL : Leavers P t gs q) {a : Goroutine} (h0 : gs[0]? = some a) (g g' : Goroutine) (w' : World) (fn : FuncId) (pos : String) (es : Array Event) :
    Leavers P (t ++ MemOp.ofEvents 0 fn pos es) ((gs.map (woken P g g' w')).setIfInBounds 0 g') q := by
  refine ⟨fun j x hj hx => ?_, fun j hj => ?_⟩
  · rw [Array.getElem?_setIfInBounds_ne (by omega), Array.getElem?_map] at hx
    obtain ⟨y, hy, rfl⟩ := Option.map_eq_some_iff.1 hx
    have hq := hL.old j y hj hy
    rw [woken_quitsD hq, Deaf_other t (g := j) (g' := 0) (by omega) _ ops_g]
    exact hq
  · have hlt : 0 < gs.size := (Array.getElem?_eq_some_iff.1 h0).1
    have hjl : gs.size ≤ j := by simpa using hj
    rw [Deaf_other t (g := j) (g' := 0) (by omega) _ ops_g]
    exact hL.above j hjl

theorem slip {t : Trace} {gs : Array Goroutine} {q : Nat → Nat} (hL : Leavers P t gs q) {i : Nat} {g : Goroutine} (hi : gs[i]? = some g) (hpos : 0 < i) (hg : g.status = .running) (w : World) (sl : Option (Nat × Nat)) :
    ∃ (gs' : Array Goroutine) (es : Array Event) (k : Nat), (∀ e ∈ es, Event.mute e = true) ∧ runT P (crowd gs w sl) i = (.next (crowd gs' w sl), MemOp.ofEvents i g.frame.fn g.frame.place es) ∧ gs'.size = gs.size ∧ q i = k + 1 ∧
      (∀ a, gs[0]? = some a → a.status = .running → gs'[0]? = some a) ∧ Leavers P (t ++ MemOp.ofEvents i g.frame.fn g.frame.place es) gs' (upd q i k) := by
  have hq := hL.old i g hpos hi
  have hi0 : (i == 0) = false := by simp; omega
  have hlt : i < gs.size := (Array.getElem?_eq_some_iff.1 hi).1
  cases hqi : q i with
  | zero => rw [hqi] at hq; rw [hq.1] at hg; cases hg
  | succ k =>
    rw [hqi] at hq
    rcases hq with ⟨hf, _⟩ | ⟨_, g', es, hm, hstp, hq'⟩
    · rw [hf] at hg; cases hg
    have hrun := runT_crowd_go (P := P) (sl := sl) (i := i) hi (by rw [hi0]; exact hstp w)
    refine ⟨_, es, k, hm, hrun, by simp, rfl, fun a ha hr => ?_, ⟨fun j x hj hx => ?_, fun j hj => ?_⟩⟩
    · rw [Array.getElem?_setIfInBounds_ne (by omega), Array.getElem?_map, ha]
      simp [woken_run hr]
    · by_cases hji : i = j
      · subst hji
        rw [Array.getElem?_setIfInBounds_self_of_lt (by simpa using hlt)] at hx
        obtain rfl := Option.some.inj hx
        rw [upd_same, Deaf_own]
        exact hq'
      · rw [Array.getElem?_setIfInBounds_ne hji, Array.getElem?_map] at hx
        obtain ⟨y, hy, rfl⟩ := Option.map_eq_some_iff.1 hx
        have hqj := hL.old j y hj hy
        rw [woken_quitsD hqj, upd_ne q k (Ne.symm hji), Deaf_other t hji _ ops_g]
        exact hqj
    · have hjl : gs.size ≤ j := by simpa using hj
      rw [Deaf_other t (g' := i) (by omega) _ ops_g]
      exact hL.above j hjl

/-- The leavers slip, till goroutine 0 is picked. -/
theorem pick0 {Shun : Loc → Prop} {B : Nat} : ∀ (M : Nat) (gs : Array Goroutine) (a : Goroutine) (w : World) (sl : Option (Nat × Nat)) (t : Trace) (q : Nat → Nat), sumTo gs.size q ≤ M → gs[0]? = some a → a.status = .running → Leavers P t gs q → Past Shun B t →
    ∃ (N : Nat) (gs' : Array Goroutine) (d0 : Nat) (sl0 : Option (Nat × Nat)) (t' : Trace) (q' : Nat → Nat) (d : Nat) (sl' : Option (Nat × Nat)), runNT P N (crowd gs w sl) t = (.next (crowd gs' (w.at d0) sl0), t') ∧ gs'[0]? = some a ∧ Leavers P t' gs' q' ∧ Past Shun B t' ∧
      stepT P (crowd gs' (w.at d0) sl0) = runT P (crowd gs' (w.at d) sl') 0 := by
  intro M
  induction M with
  | zero =>
    intro gs a w sl t q hM h0 hrun hL hP
    have haw : ∀ g ∈ gs, awake g := by
      intro g hg
      obtain ⟨i, hi, rfl⟩ := Array.mem_iff_getElem.1 hg
      rcases Nat.eq_zero_or_pos i with rfl | hpos
      · have : gs[0] = a := by simpa [Array.getElem?_eq_getElem hi] using h0
        rw [this]; exact awake_of (.inl hrun)
      · exact awake_of ((hL.old i _ hpos (Array.getElem?_eq_getElem hi)).status.elim .inl fun x => .inr (.inr x))
    obtain ⟨i, g, d, sl', hi, hg, hst⟩ := crowd_pick (P := P) (w := w) (sl := sl) haw ⟨0, a, h0, hrun⟩
    rcases Nat.eq_zero_or_pos i with rfl | hpos
    · exact ⟨0, gs, w.drawn, sl, t, q, d, sl', rfl, h0, hL, hP, hst⟩
    · obtain ⟨gs', es, k, _, _, _, hk, _⟩ := slip hL hi hpos hg w sl
      have := Go.ConcN.le_sumTo (f := q) (Array.getElem?_eq_some_iff.1 hi).1
      omega
  | succ M ih =>
    intro gs a w sl t q hM h0 hrun hL hP
    have haw : ∀ g ∈ gs, awake g := by
      intro g hg
      obtain ⟨i, hi, rfl⟩ := Array.mem_iff_getElem.1 hg
      rcases Nat.eq_zero_or_pos i with rfl | hpos
      · have : gs[0] = a := by simpa [Array.getElem?_eq_getElem hi] using h0
        rw [this]; exact awake_of (.inl hrun)
      · exact awake_of ((hL.old i _ hpos (Array.getElem?_eq_getElem hi)).status.elim .inl fun x => .inr (.inr x))
    obtain ⟨i, g, d, sl', hi, hg, hst⟩ := crowd_pick (P := P) (w := w) (sl := sl) haw ⟨0, a, h0, hrun⟩
    rcases Nat.eq_zero_or_pos i with rfl | hpos
    · exact ⟨0, gs, w.drawn, sl, t, q, d, sl', rfl, h0, hL, hP, hst⟩
    · obtain ⟨gs', es, k, hm, hr, hsz, hk, h0', hL'⟩ := slip hL hi hpos hg (w.at d) sl'
      have hsum : sumTo gs.size (upd q i k) + (k + 1) = sumTo gs.size q + k := by
        have := sumTo_upd q k id (Array.getElem?_eq_some_iff.1 hi).1
        simpa [hk] using this
      obtain ⟨N, gs2, d0, sl0, t2, q2, d2, sl2, g1, g2, g3, g4, g5⟩ := ih gs' a (w.at d) sl' _ _ (by rw [hsz]; omega) (h0' a h0 hrun) hrun hL' (hP.mute (by omega) hm)
      exact ⟨N + 1, gs2, d0, sl0, t2, q2, d2, sl2, by simp only [runNT, hst, hr]; exact g1, g2, g3, g4, g5⟩

/-- The memory as the passed function leaves it: two dead blocks more. -/
def eff2 (tT tW : TypeId) (w : World) : World := { w with heap := (w.heap.push (.cells #[] tT)).push (.cells #[] tW) }

/-- What the machine does where the lone run passes over the function. -/
def PhaseOf (P : Program) (s : FuncId) (pre : Array Value → Prop) (val : Array Value → Value) (tT tW : TypeId) : Prop :=
  ∀ (Shun : Loc → Prop) (gs : Array Goroutine) (p : World) (sl : Option (Nat × Nat)) (t : Trace) (qq : Nat → Nat) (fr : Frame) (cs : List Frame) (args : Array Value),
    pre args → fr.mode = .run → gs[0]? = some (G (Frame.enter P s args .normal) (fr :: cs)) → Leavers P t gs qq → Past Shun p.heap.size t →
    ∃ (N : Nat) (gs' : Array Goroutine) (p' : World) (sl' : Option (Nat × Nat)) (t' : Trace) (qq' : Nat → Nat) (c1 c2 : Array Value), runNT P N (crowd gs p sl) t = (.next (crowd gs' p' sl'), t') ∧ gs'[0]? = some (G (fr.finish (val args)) cs) ∧
      Leavers P t' gs' qq' ∧ Past (fun l => Shun l ∨ ∃ a, l = .cell a ∧ (a.block = p.heap.size ∨ a.block = p.heap.size + 1)) p'.heap.size t' ∧ p'.heap = (p.heap.push (.cells c1 tT)).push (.cells c2 tW) ∧ p'.os = p.os ∧ p'.output = p.output ∧ p'.tape = p.tape

/-- The machine beside the lone run. -/
structure Side (P : Program) (D : Nat → Prop) (n0 : Nat) (τ : Nat → Question → Nat) (Shun : Loc → Prop) (gs : Array Goroutine) (p : World) (t : Trace) (qq : Nat → Nat) (c : Cfg) : Prop where
  h0 : gs[0]? = some (G c.fr c.cs)
  lv : Leavers P t gs qq
  past : Past Shun p.heap.size t
  sim : SimW D 0 c.w p
  shun : ∀ l, Shun l → ∃ a, l = .cell a ∧ D a.block
  lo : ∀ b, D b → n0 ≤ b
  le : n0 ≤ p.heap.size
  tp : p.tape = τ

theorem evL_of {Shun : Loc → Prop} {D : Nat → Prop} (hsh : ∀ l, Shun l → ∃ a, l = .cell a ∧ D a.block) {N : Nat} {e : Event} (h : EvOk D N e) : EvL Shun N e := by
  obtain ⟨loc, wr, sy⟩ := e
  cases loc with
  | cell a =>
    refine ⟨fun x hx hs => ?_, by simp, by simp, ?_⟩
    · rw [Go.ConcR.ofEvent_cell] at hx
      simp only [MemAct.touch?, Option.some.injEq] at hx
      subst hx
      obtain ⟨b, hb, hd⟩ := hsh _ hs
      cases hb
      exact absurd hd h.1
    · rw [Go.ConcR.ofEvent_cell]; exact h.2
  | obj r =>
    refine ⟨fun x hx hs => ?_, by simp, by simp, ?_⟩
    · have : x.loc = .obj r := by
        cases wr <;> cases sy <;> simp [MemAct.ofEvent, MemAct.touch?] at hx <;> subst hx <;> rfl
      obtain ⟨b, hb, _⟩ := hsh _ hs
      rw [this] at hb; cases hb
    · cases wr <;> cases sy <;> exact h
  | output =>
    refine ⟨fun x hx hs => ?_, by simp, by simp, by cases wr <;> cases sy <;> trivial⟩
    have : x.loc = .output := by
      cases wr <;> cases sy <;> simp [MemAct.ofEvent, MemAct.touch?] at hx <;> subst hx <;> rfl
    obtain ⟨b, hb, _⟩ := hsh _ hs
    rw [this] at hb; cases hb
  | goroutines =>
    refine ⟨fun x hx hs => ?_, by simp, by simp, by cases wr <;> cases sy <;> trivial⟩
    have : x.loc = .goroutines := by
      cases wr <;> cases sy <;> simp [MemAct.ofEvent, MemAct.touch?] at hx <;> subst hx <;> rfl
    obtain ⟨b, hb, _⟩ := hsh _ hs
    rw [this] at hb; cases hb
  | mark m =>
    cases m <;> first | exact h.elim | exact ⟨fun x hx hs => by simp [MemAct.ofEvent, MemAct.touch?] at hx, by simp, by simp, trivial⟩

theorem Reach.not_stop {R : Value → World → Prop} {fr : Frame} {cs : List Frame} {w : World} (h : Reach P F R fr cs w) {τ : Nat → Question → Nat} (hs : isEnded (stepG (qOf P F) true (G fr (cs ++ [foot P])) (wt w τ 0)) = true) : False := by
  obtain ⟨N, m, hr, hm⟩ := h τ
  obtain ⟨o, w', he⟩ := lone_ended hs
  cases N with
  | zero => simp [runN] at hr; subst hr; exact not_tgt (by simp) hm
  | succ N => simp [runN, he] at hr
theorem Reach.not_dead (hT : Twin P F) {R : Value → World → Prop} {fr : Frame} {cs : List Frame} {w : World} (h : Reach P F R fr cs w) {τ : Nat → Question → Nat} {fr' : Frame} {q' : World} {es : Array Event} {ch : List PanicEntry}
    (hs : stepG (qOf P F) true (G fr (cs ++ [foot P])) (wt w τ 0) = .go (G fr' (cs ++ [foot P])) q' es) (hm : fr'.mode = .panicking ch) (hd : fr'.defers = []) (hcs : ∀ c ∈ cs, FrW P c ∧ c.mode = .run) : False := by
  obtain ⟨N, m, hr, ht⟩ := h τ
  cases N with
  | zero => simp [runN] at hr; subst hr; exact not_tgt (by simp) ht
  | succ N =>
    simp only [runN, lone_next hs] at hr
    exact dead_run (qOf P F) hT.size cs fr' ch q' hm hd hcs N m hr ht
theorem Reach.last {R : Value → World → Prop} {fr : Frame} {w : World} (h : Reach P F R fr [] w) {τ : Nat → Question → Nat} {v : Value} {q' : World} {es : Array Event}
    (hs : stepG (qOf P F) true (G fr [foot P]) (wt w τ 0) = .go (G ((foot P).finish v) []) q' es) : R v q' := by
  obtain ⟨N, m, hr, hm⟩ := h τ
  have hr' : runN (qOf P F) N (lone fr [foot P] (wt w τ 0)) = .next m := hr
  cases N with
  | zero => simp [runN] at hr'; subst hr'; exact absurd hm (not_tgt (by simp))
  | succ N =>
    simp only [runN, lone_next hs] at hr'
    have hT0 : Tgt P (fun _ _ => True) (lone ((foot P).finish v) [] q') := ⟨v, q', rfl, trivial⟩
    obtain ⟨_, rfl⟩ := tgt_last hT0 hr'
    obtain ⟨v', w', he, hv⟩ := hm
    simp only [lone, Machine.mk.injEq] at he
    have h1 := congrArg (fun (gs : Array Goroutine) => (gs[0]?).map (·.frame)) he.2.1
    simp only [List.getElem?_toArray, List.getElem?_cons_zero, Option.map_some, Option.some.injEq] at h1
    have h2 : v = v' := by
      have := congrArg Frame.todo h1
      simpa [foot, Frame.finish] using this
    rw [h2, he.1]; exact hv

theorem ret_callers {X : Program} {fr c : Frame} {cs cs' : List Frame} {fr' : Frame} {w w' : World} {es : Array Event} (hw : FrW P fr) (hm : fr.mode = .returning) (h : stepG X true (G fr (c :: cs)) w = .go (G fr' cs') w' es) : cs' = cs := by
  obtain ⟨fn, tmps, todo, defers, mode, kind, round⟩ := fr
  obtain ⟨hw1, hw2, hw3, hw4⟩ := hw
  simp only at hw1 hw2 hw3 hw4 hm
  subst hw2 hw3 hw4 hm
  simp only [stepG, G, unwind] at h
  split at h
  · simp only [doReturn, GStep.go.injEq, Goroutine.mk.injEq] at h
    exact h.1.2.1.symm
  · split at h <;> simp only [doReturn, GStep.after, GStep.go.injEq, Goroutine.mk.injEq, reduceCtorEq] at h
    exact h.1.2.1.symm

/-- One or two steps on. -/
def Nx2 (r : Cfg → Cfg → Prop) (y x : Cfg) : Prop := r y x ∨ ∃ z, r z x ∧ r y z
theorem acc2 {r : Cfg → Cfg → Prop} {a : Cfg} (h : Acc r a) : Acc (Nx2 r) a := by
  induction h with
  | intro x _ ih =>
    refine ⟨x, fun y hy => ?_⟩
    rcases hy with hy | ⟨z, hz, hy⟩
    · exact ih y hy
    · exact (ih z hz).inv (.inl hy)

/-- What holds at the end. -/
def PostQ (R : Value → World → Prop) (n0 : Nat) (τ : Nat → Question → Nat) (v : Value) (w' : World) : Prop := ∃ D q, SimW D 0 q w' ∧ R v q ∧ w'.tape = τ ∧ ∀ b, D b → n0 ≤ b

/-- The rest of the table of functions. -/
structure Rest2 (P : Program) (F : Array Func) (s : FuncId) (pre : Array Value → Prop) : Prop where
  others : ∀ f, f ≠ s → F[f]? = P.funcs[f]? ∨ ∃ fn why, F[f]? = some fn ∧ fn.body = some (.refuse why)
  never : ∀ args : Array Value, (∃ fn : Func, P.funcs[s]? = some fn ∧ args.size = fn.params.size) → ¬ pre args → ∀ (R : Value → World → Prop) (cs : List Frame) (u : World) (N : Nat) (m : Machine), runN (qOf P F) N (lone (Frame.enter (qOf P F) s args .normal) (cs ++ [foot P]) u) = .next m → ¬ Tgt P R m

def Btm (P : Program) (fr : Frame) (cs : List Frame) : Prop := ∀ x, ((fr :: cs).map (·.fn)).getLast? = some x → P.inits.idxOf? x = none

theorem Btm.suffix {fr fr' : Frame} {cs cs' : List Frame} (h : Btm P fr cs) (hs : (fr' :: cs').map (·.fn) <:+ (fr :: cs).map (·.fn)) : Btm P fr' cs' := by
  intro x hx
  obtain ⟨l, hl⟩ := hs
  refine h x ?_
  rw [← hl, List.getLast?_append, hx]; rfl

theorem simW_at {D : Nat → Prop} {w p : World} (h : SimW D 0 w p) (d n : Nat) : SimW D n (wt w (fun i x => p.tape (d + i) x) 0) (p.at d) :=
  ⟨h.os, h.output, h.size, h.live, h.dead, fun i x _ => by show p.tape (d + (0 + i)) x = p.tape (d + i) x; rw [Nat.zero_add]⟩
end
end Go.Proofs.Ytlgfogllkoabpaa.SimP

/-
  The driver: what the lone run reaches on every tape in the program with other bodies, the machine of many goroutines reaches in the program itself, on its tape: no race, all handed over, all others only leaving.
-/
namespace Go.Proofs.Ytlgfogllkoabpaa.SimP
open Go.Conc
set_option linter.unusedSimpArgs false
set_option linter.unusedVariables false

section
variable {P : Program} {F : Array Func} {s : FuncId} {pre : Array Value → Prop} {val : Array Value → Value} {tT tW : TypeId} {R : Value → World → Prop} {n0 : Nat} {τ : Nat → Question → Nat}

/-- The run ends well. -/
def Ends (P : Program) (Post : Value → World → Prop) (m : Machine) (t : Trace) : Prop :=
  ∃ N last o w' t', runNT P (N + 1) m t = (.ended o w', t') ∧ runN P N m = .next last ∧ step P last = .ended o w' ∧ Good P Post last o w' t'

theorem Ends.before {Post : Value → World → Prop} {m m' : Machine} {t t' : Trace} {N : Nat} (hr : runNT P N m t = (.next m', t')) (h : Ends P Post m' t') : Ends P Post m t := by
  obtain ⟨N', last, o, w', t2, h1, h2, h3, h4⟩ := h
  refine ⟨N + N', last, o, w', t2, ?_, ?_, h3, h4⟩
  · rw [Nat.add_assoc, runNT_add, hr]; exact h1
  · rw [runN_add, ← runNT_fst P _ _ t, hr]; exact h2

theorem enter_eq {f : FuncId} (h : F[f]? = P.funcs[f]?) (args : Array Value) : Frame.enter (qOf P F) f args .normal = Frame.enter P f args .normal := by
  have h' : (qOf P F).funcs[f]? = P.funcs[f]? := h
  simp only [Frame.enter, h']

theorem enter_stP (hT : Twin P F) {f : FuncId} {args : Array Value} {fr : Frame} {cs : List Frame} (hS : St P fr cs) (hm : fr.mode = .run) : St P (Frame.enter (qOf P F) f args .normal) (fr :: cs) := by
  refine ⟨?_, .inl rfl, fun c hc => ?_⟩
  · cases hf : F[f]? with
    | some fn =>
      obtain ⟨c, h1, h2⟩ := hT.white f fn hf
      exact enter_w hf h1 h2
    | none =>
      refine ⟨fun x hx => ?_, rfl, rfl, rfl⟩
      have h' : (qOf P F).funcs[f]? = none := hf
      simp only [Frame.enter, h', Option.bind_none, Option.getD_none, List.mem_singleton] at hx
      subst hx; rfl
  · rcases List.mem_cons.1 hc with rfl | hc
    · exact ⟨hS.top, hm⟩
    · exact hS.below c hc

/-- Goroutine 0's own step beside the others. -/
theorem Side.step {D : Nat → Prop} {Shun : Loc → Prop} {gs : Array Goroutine} {p p0 p' : World} {t : Trace} {qq : Nat → Nat} {a : Goroutine} {c' : Cfg} {es : Array Event} {sl : Option (Nat × Nat)}
    (h0 : gs[0]? = some a) (lv : Leavers P t gs qq) (past : Past Shun p.heap.size t) (hsz : p0.heap.size = p.heap.size) (hst : stepG P true a p0 = .go (G c'.fr c'.cs) p' es) (sim : SimW D 0 c'.w p') (hle : p.heap.size ≤ p'.heap.size)
    (shun : ∀ l, Shun l → ∃ a, l = .cell a ∧ D a.block) (lo : ∀ b, D b → n0 ≤ b) (le : n0 ≤ p.heap.size) (tp : p'.tape = τ) (hes : ∀ e ∈ es, EvOk D p'.heap.size e) :
    ∃ gs', runT P (crowd gs p0 sl) 0 = (.next (crowd gs' p' sl), MemOp.ofEvents 0 a.frame.fn a.frame.place es) ∧ Side P D n0 τ Shun gs' p' (t ++ MemOp.ofEvents 0 a.frame.fn a.frame.place es) qq c' := by
  have hlt : 0 < gs.size := (Array.getElem?_eq_some_iff.1 h0).1
  refine ⟨_, runT_crowd_go h0 hst, ⟨by simp [hlt], leavers_own lv h0 _ _ _ _ _ _, (past.mono hle).own fun e he => evL_of shun (hes e he), sim, shun, lo, Nat.le_trans le hle, tp⟩⟩

theorem push2_1 (h : Array Obj) (x y : Obj) : ((h.push x).push y)[h.size]? = some x := by
  simp only [Array.getElem?_push, Array.size_push]
  rw [if_neg (by omega), if_pos trivial]
theorem push2_2 (h : Array Obj) (x y : Obj) : ((h.push x).push y)[h.size + 1]? = some y := by
  simp only [Array.getElem?_push, Array.size_push]
  rw [if_pos trivial]

/-- The driver. -/
theorem drive (hT : Twin P F) (hL : Leap P F s pre val (eff2 tT tW)) (hRest : Rest2 P F s pre) (hPh : PhaseOf P s pre val tT tW) (hR : Tapeless R) :
    ∀ c : Cfg, Acc (Nx2 (Nx P F s pre val (eff2 tT tW))) c → Reach P F R c.fr c.cs c.w → St P c.fr c.cs → Btm P c.fr c.cs →
      ∀ (D : Nat → Prop) (Shun : Loc → Prop) (gs : Array Goroutine) (p : World) (sl : Option (Nat × Nat)) (t : Trace) (qq : Nat → Nat), Side P D n0 τ Shun gs p t qq c → Ends P (PostQ R n0 τ) (crowd gs p sl) t := by
  intro c hacc
  induction hacc with
  | intro c _ ih =>
    obtain ⟨fr, cs, w⟩ := c
    intro hreach hS hbtm D Shun gs p sl t qq hside
    simp only at hreach hS hbtm
    by_cases hend : fr.mode = .returning ∧ cs = []
    · -- the return
      obtain ⟨hret, rfl⟩ := hend
      have hG : Goes P true AtRel (fun _ _ _ => False) (AtEnd P Shun p.heap.size (PostQ R n0 τ)) 0 (G fr []) p := by
        rintro w₁ ⟨d, rfl⟩
        have hs0 := simW_at hside.sim d 0
        have hst := step_w (T := []) hT.bodies hT.noStep hT.follow hs0 hS.top hS.mode hS.below
        cases hst with
        | go fr' cs' q' es k hQ hw hm hcs hl hd htp hP =>
          have hQ' : stepG (qOf P F) true (G fr [foot P]) _ = .go (G fr' (cs' ++ [foot P])) q' es := hQ
          have := ret_callers hS.top hret hQ'
          simp at this
        | enter f args q' es k hQ hmr hd htp hP hn => rw [hret] at hmr; cases hmr
        | dead fr' ch q' es hQ hm hd => exact (hreach.not_dead hT hQ hm hd hS.below).elim
        | stop hQ => exact (hreach.not_stop hQ).elim
        | last v q' es k hc hQ hmr hd htp hP =>
          obtain ⟨p', es', rfl, h1, _, _, _, h3, h4, h5⟩ := hP k (simW_at hside.sim d k) (Nat.le_refl _)
          have hsz : q'.heap.size = p.heap.size := h3.size
          refine ⟨rfl, v, es', h1 rfl (hbtm fr.fn rfl), fun e he => ?_, D, q', by rw [Nat.sub_self] at h3; exact h3, hreach.last hQ, hside.tp, hside.lo⟩
          rw [← hsz]
          exact evL_of hside.shun (h5 e he)
      obtain ⟨N, last, o, w', t', e1, e2, e3, e4⟩ := beside_ends (sl := sl) (fun _ _ _ h => h.elim) hside.h0 hside.lv hside.past hG
      exact ⟨N, last, o, w', t', e1, e2, e3, e4⟩
    · -- a step
      obtain ⟨N0, gs1, d0, sl0, t1, q1, d, sl', hr0, h01, hL1, hP1, hpick⟩ := pick0 (P := P) _ gs (G fr cs) p sl t qq (Nat.le_refl _) hside.h0 rfl hside.lv hside.past
      refine Ends.before hr0 ?_
      have hs0 := simW_at hside.sim d 0
      have hst := step_w (T := []) hT.bodies hT.noStep hT.follow hs0 hS.top hS.mode hS.below
      cases hst with
      | dead fr' ch q' es hQ hm hd => exact (hreach.not_dead hT hQ hm hd hS.below).elim
      | stop hQ => exact (hreach.not_stop hQ).elim
      | last v q' es k hc hQ hmr hd htp hP => exact absurd ⟨hmr, hc⟩ hend
      | go fr' cs' q' es k hQ hw hm hcs hl hd htp hP =>
        obtain ⟨p', es', g1, g2, g3, g4, g5, g6⟩ := hP k (simW_at hside.sim d k) (Nat.le_refl _)
        simp only [List.append_nil] at g1
        rw [Nat.sub_self] at g4
        have hS' : St P fr' cs' := ⟨hw, hm, hcs⟩
        have hsz : q'.heap.size = p'.heap.size := g4.size
        have hle : p.heap.size ≤ p'.heap.size := by
          have : w.heap.size = p.heap.size := hside.sim.size
          rw [← hsz, ← this]; exact g5
        obtain ⟨gs2, hrun, hside2⟩ := Side.step (sl := sl') (p0 := p.at d) (c' := ⟨fr', cs', q'⟩) h01 hL1 hP1 rfl g1 g4 hle hside.shun hside.lo hside.le (g3.trans hside.tp) (by rw [← hsz]; exact g6)
        have hnx : Nx P F s pre val (eff2 tT tW) ⟨fr', cs', q'⟩ ⟨fr, cs, w⟩ := .step (hS.q hT) (hS'.q hT) hQ
        have hfin := ih _ (.inl hnx) (hnx.reach hT hL hR (hS'.q hT) hreach) hS' (hbtm.suffix hl) D Shun gs2 p' sl' _ q1 hside2
        exact Ends.before (N := 1) (by simp only [runNT, hpick, hrun]) hfin
      | enter f args q' es k hQ hmr hd htp hP hn =>
        obtain ⟨p', es', g1, g2, g3, g4, g5, g6⟩ := hP k (simW_at hside.sim d k) (Nat.le_refl _)
        simp only [List.append_nil] at g1
        rw [Nat.sub_self] at g4
        have hS' : St P (Frame.enter (qOf P F) f args .normal) (fr :: cs) := enter_stP hT hS hmr
        have hsz : q'.heap.size = p'.heap.size := g4.size
        have hle : p.heap.size ≤ p'.heap.size := by
          have : w.heap.size = p.heap.size := hside.sim.size
          rw [← hsz, ← this]; exact g5
        have hnx : Nx P F s pre val (eff2 tT tW) ⟨Frame.enter (qOf P F) f args .normal, fr :: cs, q'⟩ ⟨fr, cs, w⟩ := .step (hS.q hT) (hS'.q hT) hQ
        have hreach' := hnx.reach hT hL hR (hS'.q hT) hreach
        have hbtm' : Btm P (Frame.enter (qOf P F) f args .normal) (fr :: cs) := fun x hx => hbtm x (by simpa [List.getLast?_cons_cons] using hx)
        by_cases hf : f = s
        · subst hf
          by_cases hpre : pre args
          · -- the function that is passed over
            obtain ⟨gs2, hrun, hside2⟩ := Side.step (sl := sl') (p0 := p.at d) (c' := ⟨Frame.enter P f args .normal, fr :: cs, q'⟩) h01 hL1 hP1 rfl g1 g4 hle hside.shun hside.lo hside.le (g3.trans hside.tp) (by rw [← hsz]; exact g6)
            obtain ⟨N2, gs3, p3, sl3, t3, q3, c1, c2, k1, k2, k3, k4, k5, k6, k7, k8⟩ := hPh Shun gs2 p' sl' _ q1 fr cs args hpre hmr hside2.h0 hside2.lv hside2.past
            have hnx2 : Nx P F f pre val (eff2 tT tW) ⟨fr.finish (val args), cs, eff2 tT tW q'⟩ ⟨Frame.enter (qOf P F) f args .normal, fr :: cs, q'⟩ := .leap hpre
            have hfw := finish_w hS.top hmr (val args)
            have hS2 : St P (fr.finish (val args)) cs := ⟨hfw.1, .inl hfw.2, hS.below⟩
            have hreach2 := hnx2.reach hT hL hR (hS2.q hT) hreach'
            have hbtm2 : Btm P (fr.finish (val args)) cs := hbtm.suffix (by simp [finish_fn])
            have hps : p3.heap.size = p'.heap.size + 2 := by rw [k5]; simp
            have hside3 : Side P (fun b => D b ∨ b = p'.heap.size ∨ b = p'.heap.size + 1) n0 τ (fun l => Shun l ∨ ∃ a, l = .cell a ∧ (a.block = p'.heap.size ∨ a.block = p'.heap.size + 1)) gs3 p3 t3 q3 ⟨fr.finish (val args), cs, eff2 tT tW q'⟩ := by
              refine ⟨k2, k3, k4, ⟨?_, ?_, ?_, fun b hb => ?_, fun b hb => ?_, fun i x hi => absurd hi (Nat.not_lt_zero _)⟩, fun l hl => ?_, fun b hb => ?_, ?_, k8.trans hside2.tp⟩
              · rw [k6]; exact g4.os
              · rw [k7]; exact g4.output
              · rw [hps]; simp [eff2, hsz]
              · have h1 : ¬ D b := fun h => hb (.inl h)
                have h2 : b ≠ p'.heap.size := fun h => hb (.inr (.inl h))
                have h3 : b ≠ p'.heap.size + 1 := fun h => hb (.inr (.inr h))
                rw [k5]
                simp only [eff2, Array.getElem?_push, Array.size_push, hsz, if_neg h2, if_neg h3]
                exact g4.live b h1
              · rcases hb with hb | rfl | rfl
                · obtain ⟨c, ty, fz, j1, j2⟩ := g4.dead b hb
                  have hlt : b < q'.heap.size := (Array.getElem?_eq_some_iff.1 j1).1
                  have h2 : b ≠ p'.heap.size := by omega
                  have h3 : b ≠ p'.heap.size + 1 := by omega
                  refine ⟨c, ty, fz, ?_, ?_⟩
                  · simp only [eff2, Array.getElem?_push, Array.size_push, hsz, if_neg h2, if_neg h3]; exact j1
                  · rw [k5]; simp only [Array.getElem?_push, Array.size_push, if_neg h2, if_neg h3]; exact j2
                · refine ⟨c1, tT, (0, 0), ?_, ?_⟩
                  · rw [← hsz]; exact push2_1 _ _ _
                  · rw [k5]; exact push2_1 _ _ _
                · refine ⟨c2, tW, (0, 0), ?_, ?_⟩
                  · rw [← hsz]; exact push2_2 _ _ _
                  · rw [k5]; exact push2_2 _ _ _
              · rcases hl with hl | ⟨a, rfl, ha⟩
                · obtain ⟨a, h1, h2⟩ := hside2.shun l hl
                  exact ⟨a, h1, .inl h2⟩
                · exact ⟨a, rfl, .inr ha⟩
              · rcases hb with hb | rfl | rfl
                · exact hside2.lo b hb
                · exact hside2.le
                · exact Nat.le_succ_of_le hside2.le
              · rw [hps]; exact Nat.le_trans hside2.le (by omega)
            have hfin := ih _ (.inr ⟨_, hnx, hnx2⟩) hreach2 hS2 hbtm2 _ _ gs3 p3 sl3 t3 q3 hside3
            exact Ends.before (N := 1) (by simp only [runNT, hpick, hrun]) (Ends.before k1 hfin)
          · -- it is never called so
            obtain ⟨N, m, hr, hm⟩ := hreach' τ
            exact absurd hm (hRest.never args hn hpre R (fr :: cs) _ N m hr)
        · rcases hRest.others f hf with he | ⟨fn, why, he1, he2⟩
          · rw [← enter_eq he] at g1
            obtain ⟨gs2, hrun, hside2⟩ := Side.step (sl := sl') (p0 := p.at d) (c' := ⟨Frame.enter (qOf P F) f args .normal, fr :: cs, q'⟩) h01 hL1 hP1 rfl g1 g4 hle hside.shun hside.lo hside.le (g3.trans hside.tp) (by rw [← hsz]; exact g6)
            have hfin := ih _ (.inl hnx) hreach' hS' hbtm' D Shun gs2 p' sl' _ q1 hside2
            exact Ends.before (N := 1) (by simp only [runNT, hpick, hrun]) hfin
          · refine (hreach'.not_stop (τ := τ) ?_).elim
            have h' : (qOf P F).funcs[f]? = some fn := he1
            simp [isEnded, stepG, stepG.exec, G, Frame.enter, h', he2]
end
end Go.Proofs.Ytlgfogllkoabpaa.SimP
