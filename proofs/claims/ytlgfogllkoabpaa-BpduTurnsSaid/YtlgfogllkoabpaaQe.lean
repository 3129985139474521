/-
  bpdu.sum is passed over: its leap; it is never called otherwise.
-/
import Derived.Test.YtlgfogllkoabpaaQc
import Derived.Conc.BesideWords
import Derived.Conc.LeavingOf
import Derived.Below
namespace Go.Proofs.Ytlgfogllkoabpaa.SimP
open Go.Conc Go.ConcN Go.ConcX Go.RowKit Go.Conc.Lib Go.ConcR.Gen Go.ConcN.Gen Go.ConcX.Gen
set_option linter.unusedVariables false
set_option maxRecDepth 100000

theorem leap_q : Leap Try.prog TryQ.FQ 18 preSum valSum (eff2 53 60) where
  calls := by
    rintro _ u ⟨b, rfl, hb⟩
    exact q_sum b hb u
  wt _ _ _ := rfl

/-- A lone walk is a run. -/
theorem goes_mono {r : GStep} {K K' : Goroutine → World → Array Event → Prop} (h : r.goes K) (hk : ∀ g w es, K g w es → K' g w es) : r.goes K' := by
  cases r with
  | go g w es => rw [goes_go] at h ⊢; exact hk _ _ _ h
  | _ => exact h
theorem goes_eq {X : Program} {m : Bool} {D : World → World → Array Event → Prop} {S : Goroutine → World → Prop} : ∀ {n : Nat} {g : Goroutine} {w : World}, Goes X m AtRel D S n g w → Goes X m Eq D S n g w
  | 0, g, w, h => fun w₁ e => h w₁ (e ▸ AtRel.refl w)
  | n + 1, g, w, h => by
    rcases h with h | ⟨hs, h⟩
    · exact .inl fun w₁ e => h w₁ (e ▸ AtRel.refl w)
    · exact .inr ⟨hs, fun w₁ e => goes_mono (h w₁ (e ▸ AtRel.refl w)) fun g w es ⟨h1, h2⟩ => ⟨h1, goes_eq h2⟩⟩
theorem run_of_goes {X : Program} {S : Goroutine → World → Prop} {n : Nat} {fr : Frame} {cs : List Frame} {w : World} (h : Goes X true AtRel (DE fun _ => True) S n (G fr cs) w) : ∃ k g' w', runN X k (lone fr cs w) = .next (solo g' w') ∧ S g' w' := by
  obtain ⟨k0, a0, w0, u, r0, hs, _⟩ := solo_goesE #[] (goes_eq h)
  refine ⟨k0, a0, w0, ?_, hs⟩
  have e := runNT_fst X k0 (lone fr cs w) #[]
  rw [show runNT X k0 (lone fr cs w) #[] = _ from r0] at e
  exact e.symm

/-- It ends, and that by no return. -/
def Dead (X : Program) (cs : List Frame) (g : Goroutine) (w : World) : Prop := ∃ fr, g = G fr cs ∧ isEnded (stepG X true (G fr cs) w) = true
theorem never_of {P : Program} {X : Program} {fr : Frame} {cs : List Frame} {u : World} (hcs : cs ≠ []) {n : Nat} (h : Goes X true AtRel (DE fun _ => True) (Dead X cs) n (G fr cs) u) (R : Value → World → Prop) {N : Nat} {m : Machine} (hr : runN X N (lone fr cs u) = .next m) : ¬ Tgt P R m := by
  intro hm
  obtain ⟨k, g', w', hk, fr', rfl, hend⟩ := run_of_goes h
  have hk' : runN X k (lone fr cs u) = .next (lone fr' cs w') := hk
  obtain ⟨o, w2, hs⟩ := lone_ended hend
  by_cases c : N ≤ k
  · obtain ⟨d, rfl⟩ := Nat.exists_eq_add_of_le c
    rw [runN_add, hr] at hk'
    obtain ⟨_, e⟩ := tgt_last hm hk'
    rw [← e] at hm
    exact not_tgt hcs hm
  · obtain ⟨d, rfl⟩ : ∃ d, N = k + (d + 1) := ⟨N - k - 1, by omega⟩
    rw [runN_add, hk'] at hr
    simp only [runN, hs] at hr
    cases hr

theorem ended_oper {X : Program} {fn : FuncId} {tmps : Array Value} {ops : Array Oper} {i : Nat} {rest : List Nat} {k : List Item} {cs : List Frame} {w : World} {o : Oper} {y : Halt} {es : Array Event}
    (ho : ops[i]? = some o) (hw : Region.wanted o (yielded ops tmps) = true)
    (hh : (execOp (Frame.eval { fn, tmps, todo := .inRegion ops (i :: rest) :: k, defers := [], mode := .run, kind := .normal, roundOf := none }) o).runT X w #[] = (.halt y w, es)) (hy : (∃ x, y = .stuck x) ∨ y = .unsupported .addressObserved ∨ ∃ u, y = .unsupported (.resourceLimit u)) :
    isEnded (stepG X true (G { fn, tmps, todo := .inRegion ops (i :: rest) :: k, defers := [], mode := .run, kind := .normal, roundOf := none } cs) w) = true := by
  simp only [stepG, stepG.exec, stepG.oper, G, Frame.oper?, ho, Option.map_some, hw]
  unfold stepG.apply
  simp only [hh]
  rcases hy with ⟨x, rfl⟩ | rfl | ⟨u, rfl⟩ <;> rfl
theorem add_stuck {X : Program} {ρ : Operand → Value} {v : Value} {t : TypeId} {o : Oper} (ho : o.op = .binOp .add t (.tmp 0) (.const (.string ByteArray.empty)) t) (h0 : ρ (.tmp 0) = v) (h1 : ρ (.const (.string ByteArray.empty)) = .string ByteArray.empty) (hv : ¬ ∃ b, v = .string b) (w : World) :
    ∃ y, (execOp ρ o).runT X w #[] = (.halt y w, #[]) ∧ ((∃ x, y = .stuck x) ∨ y = .unsupported .addressObserved ∨ ∃ u, y = .unsupported (.resourceLimit u)) := by
  unfold execOp
  simp only [ho, h0, h1]
  cases v <;> first | (exact absurd ⟨_, rfl⟩ hv) | exact ⟨_, rfl, .inl ⟨_, rfl⟩⟩ | (rename_i a; cases a <;> exact ⟨_, rfl, .inr (.inl rfl)⟩)
theorem add_large {X : Program} {ρ : Operand → Value} {b : ByteArray} {t : TypeId} {o : Oper} (ho : o.op = .binOp .add t (.tmp 0) (.const (.string ByteArray.empty)) t) (h0 : ρ (.tmp 0) = .string b) (h1 : ρ (.const (.string ByteArray.empty)) = .string ByteArray.empty) (hb : 9223372036854775807 < b.size) (w : World) :
    ∃ x, (execOp ρ o).runT X w #[] = (.halt (.unsupported (.resourceLimit x)) w, #[]) := by
  unfold execOp
  simp only [ho, h0, h1]
  refine ⟨"string concatenation: a sum of the lengths that is no int", ?_⟩
  have e : (binOp .add t (.string b) (.string ByteArray.empty)).runT X w #[] = (.halt (.unsupported (.resourceLimit "string concatenation: a sum of the lengths that is no int")) w, #[]) := by
    show (Op.stringOp .add b ByteArray.empty).runT X w #[] = _
    unfold Op.stringOp
    simp only []
    rw [if_pos (by simp; omega)]
    rfl
  show (((binOp .add t (.string b) (.string ByteArray.empty)).bind fun v => Sem.pure (Next.value v)).runT X w #[]) = _
  rw [Sem.runT_bind', e]

set_option maxHeartbeats 4000000 in
theorem never_q (args : Array Value) (hn : ∃ fn : Func, Try.prog.funcs[18]? = some fn ∧ args.size = fn.params.size) (hp : ¬ preSum args) (cs : List Frame) (hcs : cs ≠ []) (u : World) :
    ∃ n, Goes TryQ.prog true AtRel (DE fun _ => True) (Dead TryQ.prog cs) n (G (Frame.enter TryQ.prog 18 args .normal) cs) u := by
  obtain ⟨fn, h1, h2⟩ := hn
  rw [Try.func18] at h1
  cases h1
  obtain ⟨v, rfl⟩ : ∃ v, args = #[v] := by
    obtain ⟨l⟩ := args
    match l, h2 with
    | [v], _ => exact ⟨v, rfl⟩
    | [], h => simp [Try.params18] at h
    | _ :: _ :: _, h => simp [Try.params18] at h
  have e : Frame.enter TryQ.prog 18 #[v] .normal = (base 18).at ⟨#[v, undef, undef, undef, undef, undef, undef, undef, undef, undef, undef, undef, undef, undef, undef, undef, undef, undef, undef, undef, undef, undef, undef, undef], []⟩ [.code ownSum] := by
    simp [Frame.enter, Frame.at, TryQ.func18, base, TryQ.f18]
  rw [e]
  unfold ownSum
  by_cases hv : ∃ b, v = .string b
  · obtain ⟨b, rfl⟩ := hv
    have hb : 12 < b.size := by
      refine Nat.lt_of_not_le fun h => hp ⟨b, rfl, h⟩
    by_cases hlg : 9223372036854775807 < b.size
    · refine ⟨2, ?_⟩
      l_c stepG_seq
      l_reg
      refine Goes.stop fun w₁ h₁ => ⟨_, rfl, ?_⟩
      obtain ⟨x, hx⟩ := add_large (X := TryQ.prog) (t := 9) (o := { dst := some 6, op := .binOp .add 9 (.tmp 0) (.const (.string ByteArray.empty)) 9, type := 9, pos := "", after := #[], guard := none })
        (ρ := Frame.eval { fn := 18, tmps := #[.string b, undef, undef, undef, undef, undef, undef, undef, undef, undef, undef, undef, undef, undef, undef, undef, undef, undef, undef, undef, undef, undef, undef, undef], todo := [], defers := [], mode := .run, kind := .normal, roundOf := none }) rfl rfl rfl hlg w₁
      exact ended_oper rfl rfl hx (.inr (.inr ⟨_, rfl⟩))
    · have he : ∀ w, (Op.stringOp .add b ByteArray.empty).run TryQ.prog w = .ok (.string b) w := by
        intro w
        simp [go_sem, Op.stringOp]
        omega
      refine ⟨40, ?_⟩
      l_c stepG_seq
      l_reg
      l_in
      refine goes_oper_k rfl rfl (by k_ne) (fun K hK => ?_)
      go_simp
      refine hK _ _ ⟨fun _ _ => trivial, ?_⟩
      clear hK K
      try walk_nrm
      l_c stepG_region_end
      l_c stepG_seq
      l_reg
      l_in
      refine goes_oper_k rfl rfl (by k_ne) (fun K hK => ?_)
      go_simp
      refine hK _ _ ⟨fun _ _ => trivial, ?_⟩
      clear hK K
      try walk_nrm
      l_c stepG_region_end
      l_c stepG_seq
      l_reg
      l_in
      refine goes_oper_k rfl rfl (by k_ne) (fun K hK => ?_)
      go_simp
      refine hK _ _ ⟨fun _ _ => trivial, ?_⟩
      clear hK K
      try walk_nrm
      l_c stepG_region_end
      rw [show decide ((12 : Int) < (b.size : Int)) = true from decide_eq_true (by omega)]
      l_c stepG_seq
      l_cond true
      refine Goes.stop fun w₁ h₁ => ⟨_, rfl, ?_⟩
      simp [isEnded, stepG, stepG.exec, G, Frame.at]
  · refine ⟨2, ?_⟩
    l_c stepG_seq
    l_reg
    refine Goes.stop fun w₁ h₁ => ⟨_, rfl, ?_⟩
    obtain ⟨x, hx, hy⟩ := add_stuck (X := TryQ.prog) (v := v) (t := 9) (o := { dst := some 6, op := .binOp .add 9 (.tmp 0) (.const (.string ByteArray.empty)) 9, type := 9, pos := "", after := #[], guard := none })
      (ρ := Frame.eval { fn := 18, tmps := #[v, undef, undef, undef, undef, undef, undef, undef, undef, undef, undef, undef, undef, undef, undef, undef, undef, undef, undef, undef, undef, undef, undef, undef], todo := [], defers := [], mode := .run, kind := .normal, roundOf := none }) rfl rfl rfl hv w₁
    exact ended_oper rfl rfl hx hy
theorem rest_q : Rest2 Try.prog TryQ.FQ 18 preSum where
  others f hf := others_q f hf
  never args hn hp R cs u N m hr := by
    obtain ⟨n, h⟩ := never_q args hn hp (cs ++ [foot Try.prog]) (by simp) u
    exact never_of (by simp) h R hr
theorem own_white : codeW Try.prog ownSum = true := by kernel_rfl
theorem twin_Q : Twin Try.prog TryQ.FQ := twin_q own_white (by kernel_rfl)
end Go.Proofs.Ytlgfogllkoabpaa.SimP

/-
  From a contract over TryQ to the run of the program itself, with all its goroutines.
-/
namespace Go.Proofs.Ytlgfogllkoabpaa.SimP
open Go.Conc Go.RowKit
set_option linter.unusedVariables false
set_option maxRecDepth 100000

/-- All but the tape. -/
def RBel (W : World) (V : Value) (v : Value) (q : World) : Prop := v = V ∧ q.os = W.os ∧ q.output = W.output ∧ W.heap.size ≤ q.heap.size ∧ ∀ k, k < W.heap.size → q.heap[k]? = W.heap[k]?

theorem ends_of_calls {f : FuncId} {fn : Func} {args : Array Value} {W : World} {V : Value} (hfn : Try.prog.funcs[f]? = some fn) (hne : f ≠ 18) (hw : fn.body.any (codeW Try.prog) = true) (hin : Try.prog.inits.idxOf? f = none)
    (h : ∀ τ, Calls TryQ.prog f args (wt W τ 0) fun e w' => e = .returned V ∧ Below W.heap.size (wt W τ 0) w') :
    Ends Try.prog (fun v w' => v = V ∧ Below W.heap.size W w') (solo (G (Frame.enter Try.prog f args .normal) []) W) #[] := by
  have hF : TryQ.FQ[f]? = Try.prog.funcs[f]? := (fq_some hfn hne hw).trans hfn.symm
  have hen : Frame.enter (qOf Try.prog TryQ.FQ) f args .normal = Frame.enter Try.prog f args .normal := enter_eq hF args
  have hR : Tapeless (RBel W V) := fun v w τ d h => h
  have hreach : Reach Try.prog TryQ.FQ (RBel W V) (Frame.enter Try.prog f args .normal) [] W := by
    intro τ
    obtain ⟨en, u', fr1, ⟨rfl, hb⟩, hc, hfn', hlv⟩ := h τ [foot Try.prog]
    obtain ⟨M, hM⟩ := runN_of_steps (X := TryQ.prog) hc
    refine ⟨M + 1, lone ((foot Try.prog).finish V) [] u', ?_, V, u', rfl, rfl, hb.os, hb.output, hb.size, hb.block⟩
    have hstep := step_leave_returned (c := foot Try.prog) (cs := []) hlv
    rw [runN_add]
    rw [← hen]
    show (match runN TryQ.prog M (lone (Frame.enter TryQ.prog f args .normal) [foot Try.prog] (wt W τ 0)) with | .next m => runN TryQ.prog 1 m | e => e) = _
    rw [hM]
    simp only [runN]
    rw [show step TryQ.prog (lone fr1 [foot Try.prog] u') = _ from hstep]
  obtain ⟨c, hc1, hc2⟩ : ∃ c, fn.body = some c ∧ codeW Try.prog c = true := by
    cases hb : fn.body with
    | none => rw [hb] at hw; cases hw
    | some c => rw [hb] at hw; exact ⟨c, rfl, hw⟩
  have hS : St Try.prog (Frame.enter Try.prog f args .normal) [] := by
    refine ⟨?_, .inl rfl, fun c hc => by cases hc⟩
    rw [← hen]
    exact enter_w (hF.trans hfn) hc1 hc2
  have hB : Btm Try.prog (Frame.enter Try.prog f args .normal) [] := by
    intro x hx
    have : some f = some x := hx
    cases this
    exact hin
  have hside : Side Try.prog (fun _ => False) W.heap.size W.tape (fun _ => False) #[G (Frame.enter Try.prog f args .normal) []] W #[] (fun _ => 0) ⟨Frame.enter Try.prog f args .normal, [], W⟩ :=
    ⟨rfl, leavers_one _ _, past_nil.mono (Nat.zero_le _), ⟨rfl, rfl, rfl, fun _ _ => rfl, fun _ hb => hb.elim, fun i x hi => absurd hi (Nat.not_lt_zero _)⟩, fun _ h => h.elim, fun _ h => h.elim, Nat.le_refl _, rfl⟩
  obtain ⟨N, last, o, w', t', e1, e2, e3, e4⟩ := drive (τ := W.tape) (n0 := W.heap.size) twin_Q leap_q rest_q phase hR ⟨_, [], W⟩ (acc2 (Nx.acc twin_Q leap_q hreach)) hreach hS hB _ _ _ W none #[] _ hside
  refine ⟨N, last, o, w', t', e1, e2, e3, e4.mono ?_⟩
  rintro v ⟨D, q, hs, ⟨rfl, r1, r2, r3, r4⟩, ht, hlo⟩
  refine ⟨rfl, hs.os.symm.trans r1, ht, hs.output.symm.trans r2, by rw [← hs.size]; exact r3, fun k hk => ?_⟩
  have hnd : ¬ D k := fun hd => by have := hlo k hd; omega
  exact (hs.live k hnd).symm.trans (r4 k hk)
end Go.Proofs.Ytlgfogllkoabpaa.SimP
