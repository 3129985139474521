/-
  The program in which bpdu.sum has a body of one goroutine: what is asked of it.
-/
import Derived.Test.YtlgfogllkoabpaaCrY
import Derived.KernelRfl
namespace Go.Proofs.Ytlgfogllkoabpaa.SimP
open Go.Conc
set_option linter.unusedSimpArgs false
set_option linter.unusedVariables false
set_option maxRecDepth 100000

/-- The other body: two empty blocks are laid, and all is added up by one. -/
def ownSum : Code :=
  .seq (.region 0 #[{ dst := some 6, op := .binOp .add 9 (.tmp 0) (.const (.string ByteArray.empty)) 9, type := 9, pos := "", after := #[], guard := none }] false)
  (.seq (.region 1 #[{ dst := some 7, op := .call { callee := .builtin .len, args := #[.tmp 6], argTypes := #[9] }, type := 3, pos := "", after := #[], guard := none }] false)
  (.seq (.region 2 #[{ dst := some 8, op := .binOp .lss 3 (.const (.int .i64 12)) (.tmp 7) 3, type := 4, pos := "", after := #[], guard := none }] false)
  (.seq (.cond (.tmp 8) (.refuse "") .skip)
  (.seq (.region 3 #[{ dst := some 3, op := .box 53 (.const (.agg #[])), type := 0, pos := "", after := #[], guard := none }] false)
  (.seq (.region 4 #[{ dst := some 4, op := .box 60 (.const (.agg #[])), type := 0, pos := "", after := #[], guard := none }] false)
  (.seq (.region 5 #[{ dst := some 23, op := .call { callee := .value (.func 34), args := #[.tmp 6], argTypes := #[9] }, type := 3, pos := "", after := #[], guard := none }] false)
  (.seq (.region 6 #[{ dst := some 2, op := .assign (.tmp 23), type := 3, pos := "", after := #[], guard := none }] false)
  .ret)))))))

def bodyQ (P : Program) (s : FuncId) (own : Code) (f : Nat) (fn : Func) : Func := if f = s then { fn with body := some own } else if fn.body.any (codeW P) = true then fn else { fn with body := some (.refuse "") }
def funcsQ (P : Program) (s : FuncId) (own : Code) : Array Func := P.funcs.mapIdx (bodyQ P s own)

section
variable {P : Program} {s : FuncId} {own : Code}
theorem fq_get (f : FuncId) : (funcsQ P s own)[f]? = (P.funcs[f]?).map (bodyQ P s own f) := Array.getElem?_mapIdx
theorem bodyQ_same (f : Nat) (fn : Func) : ({ bodyQ P s own f fn with body := none } : Func) = { fn with body := none } := by
  unfold bodyQ
  split
  · rfl
  · split <;> rfl
theorem bodyQ_some (f : Nat) (fn : Func) : (bodyQ P s own f fn).body.isSome = true := by
  unfold bodyQ
  split
  · rfl
  · split
    · rename_i h
      cases hb : fn.body with
      | none => rw [hb] at h; cases h
      | some c => rfl
    · rfl
theorem bodies_q : Bodies P (funcsQ P s own) := by
  intro f
  rw [fq_get]
  refine ⟨?_, fun fn h => ?_⟩
  · cases P.funcs[f]? with
    | none => rfl
    | some fn => simp only [Option.map_some, bodyQ_same]
  · obtain ⟨fn', _, rfl⟩ := Option.map_eq_some_iff.1 h
    exact bodyQ_some f fn'
theorem white_q (hown : codeW P own = true) (f : Nat) (fn : Func) : ∃ c, (bodyQ P s own f fn).body = some c ∧ codeW P c = true := by
  unfold bodyQ
  split
  · exact ⟨own, rfl, hown⟩
  · split
    · rename_i h
      cases hb : fn.body with
      | none => rw [hb] at h; cases h
      | some c => rw [hb] at h; exact ⟨c, rfl, h⟩
    · exact ⟨_, rfl, rfl⟩
theorem readies_w : ∀ {c : Code}, codeW P c = true → readies c = []
  | .skip, _ | .exit _, _ | .label _, _ | .goto _, _ | .ret, _ | .refuse _, _ => rfl
  | .region _ ops _, h => by
    simp only [codeW, Array.all_eq_true'] at h
    simp only [readies]
    rw [List.filterMap_eq_nil_iff]
    intro o ho
    have := h o (by simpa using ho)
    unfold opW at this
    cases hop : o.op <;> simp only [hop] at this ⊢ <;> cases this
  | .seq a b, h => by
    simp only [codeW, Bool.and_eq_true] at h
    simp only [readies, readies_w h.1, readies_w h.2, List.append_nil]
  | .cond _ a b, h => by
    simp only [codeW, Bool.and_eq_true] at h
    simp only [readies, readies_w h.1, readies_w h.2, List.append_nil]
  | .block _ c, h => readies_w (c := c) h
  | .loop c, h => readies_w (c := c) h
  | .scope c, h => readies_w (c := c) h
theorem twin_q (hown : codeW P own = true) (hfo : P.follows .staticDataAhead = true) : Twin P (funcsQ P s own) where
  bodies := bodies_q
  size := by simp [funcsQ]
  noStep g := by
    unfold Program.stepOf
    rw [Array.findIdx?_eq_none_iff]
    intro fn hfn
    have hfn' : fn ∈ funcsQ P s own := hfn
    obtain ⟨f, hf⟩ := Array.mem_iff_getElem?.1 hfn'
    rw [fq_get] at hf
    obtain ⟨fn', _, rfl⟩ := Option.map_eq_some_iff.1 hf
    obtain ⟨c, h1, h2⟩ := white_q (s := s) hown f fn'
    rw [h1]
    simp [readies_w h2]
  follow := hfo
  white f fn hf := by
    rw [fq_get] at hf
    obtain ⟨fn', _, rfl⟩ := Option.map_eq_some_iff.1 hf
    exact white_q hown f fn'
theorem others_q (f : FuncId) (hf : f ≠ s) : (funcsQ P s own)[f]? = P.funcs[f]? ∨ ∃ fn why, (funcsQ P s own)[f]? = some fn ∧ fn.body = some (.refuse why) := by
  rw [fq_get]
  cases P.funcs[f]? with
  | none => exact .inl rfl
  | some fn =>
    by_cases h : fn.body.any (codeW P) = true
    · exact .inl (by simp only [Option.map_some, bodyQ, if_neg hf, if_pos h])
    · exact .inr ⟨_, "", rfl, by simp only [bodyQ, if_neg hf, if_neg h]⟩
theorem fq_some {f : FuncId} {fn : Func} (h : P.funcs[f]? = some fn) (hf : f ≠ s) (hw : fn.body.any (codeW P) = true) : (funcsQ P s own)[f]? = some fn := by
  rw [fq_get, h]
  simp only [Option.map_some, bodyQ, if_neg hf, if_pos hw]
theorem fq_own {fn : Func} (h : P.funcs[s]? = some fn) : (funcsQ P s own)[s]? = some { fn with body := some own } := by
  rw [fq_get, h]
  simp only [Option.map_some, bodyQ, if_true]
end
end Go.Proofs.Ytlgfogllkoabpaa.SimP
