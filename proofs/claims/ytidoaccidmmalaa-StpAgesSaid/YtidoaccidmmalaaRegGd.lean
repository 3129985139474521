/-
  A law on a region that draws its order, some of whose operations are guarded by Booleans that are known: each operation keeps what the others told, memory is made alone. Of no program but for names.
-/
import Derived.Test.YtidoaccidmmalaaRegMono
namespace Go.Proofs.Ytidoaccidmmalaa.MacP
open Go.RowKit
set_option linter.unusedVariables false

section
variable {P : Program} {ops : Array Oper} {Q : Exit → Act → World → Prop}

/-- What is asked of each operation: it writes slot 'd i'; its guard, if there is one, is one of G, and it waits for it. -/
def plainG (ops : Array Oper) (d : Nat → Nat) (n : Nat) (G : List (Nat × Bool)) : Bool :=
  (List.range ops.size).all fun i => ((ops[i]?).map fun o => o.dst == some (d i) && (match o.guard with | none => true | some g => G.contains g && o.after.any fun e => decide (e.on = g.1) && Region.binds .any e)).getD false && decide (d i < n) && (List.range ops.size).all fun j => decide (i = j) || decide (d i ≠ d j)
theorem plainG_spec {d : Nat → Nat} {n : Nat} {G : List (Nat × Bool)} (h : plainG ops d n G = true) : ∀ i o, ops[i]? = some o → o.dst = some (d i) ∧ (∀ g, o.guard = some g → g ∈ G ∧ ∃ e ∈ o.after, e.on = g.1 ∧ Region.binds .any e = true) ∧ d i < n ∧ ∀ j, j < ops.size → i ≠ j → d i ≠ d j := by
  intro i o ho
  have hi : i < ops.size := (Array.getElem?_eq_some_iff.1 ho).1
  unfold plainG at h
  rw [List.all_eq_true] at h
  have h1 := h i (List.mem_range.2 hi)
  simp only [ho, Option.map_some, Option.getD_some, Bool.and_eq_true, beq_iff_eq, decide_eq_true_eq, List.all_eq_true, List.mem_range, Bool.or_eq_true] at h1
  obtain ⟨⟨⟨a, b⟩, c⟩, e⟩ := h1
  refine ⟨a, fun g hg => ?_, c, fun j hj hne => (e j hj).resolve_left hne⟩
  rw [hg] at b
  simp only [Bool.and_eq_true, List.contains_iff_mem] at b
  obtain ⟨b1, b2⟩ := b
  rw [Array.any_eq_true] at b2
  obtain ⟨x, hx, b3⟩ := b2
  rw [Bool.and_eq_true, decide_eq_true_eq] at b3
  exact ⟨b1, o.after[x], Array.getElem_mem hx, b3.1, b3.2⟩
theorem wanted_of {o : Oper} {a : Act} {d : Nat → Nat} {n : Nat} {G : List (Nat × Bool)} (hp : plainG ops d n G = true) (hn : a.tmps.size = n) (hG : ∀ g, o.guard = some g → ∃ p, ops[g.1]? = some p ∧ a.tmps.getD (d g.1) undef = .bool g.2) : Region.wanted o (yielded ops a.tmps) = true := by
  unfold Region.wanted
  cases hg : o.guard with
  | none => rfl
  | some g =>
    obtain ⟨p, h1, h2⟩ := hG g hg
    obtain ⟨e1, _, e3, _⟩ := plainG_spec hp g.1 p h1
    have h3 : a.tmps[d g.1]? = some (.bool g.2) := by
      rw [Array.getD_eq_getD_getElem?, Array.getElem?_eq_getElem (by omega)] at h2
      rw [Array.getElem?_eq_getElem (by omega)]
      exact congrArg some h2
    simp [yielded, h1, e1, h3]
/-- Each operation's value meets 'sp i', which stays true as memory is made; a region that draws its order is run an operation at a time. -/
theorem wp_region_monoG {id : Nat} {a0 : Act} {w0 : World} (hm : P.follows .mixedOrders = true) (d : Nat → Nat) (G : List (Nat × Bool)) (hp : plainG ops d a0.tmps.size G = true)
    (sp : Nat → Value → World → Prop) (mono : ∀ i v w w', sp i v w → Below w.heap.size w w' → sp i v w') (hG : ∀ g ∈ G, ∀ v w, sp g.1 v w → v = .bool g.2)
    (hop : ∀ i o, ops[i]? = some o → ∀ (a : Act) (w : World), Below w0.heap.size w0 w → (∀ e ∈ o.after, Region.binds .any e = true → sp e.on (a.tmps.getD (d e.on) undef) w) →
      (∀ k, (∀ j, j < ops.size → d j ≠ k) → a.tmps.getD k undef = a0.tmps.getD k undef) →
      ∀ K : Act → World → Prop, (∀ v w', sp i v w' → Below w.heap.size w w' → K (a.put (some (d i)) v) w') → Oper.wp P o a w K Q)
    (hend : ∀ (a : Act) (w : World), Below w0.heap.size w0 w → (∀ i, i < ops.size → sp i (a.tmps.getD (d i) undef) w) → (∀ k, (∀ j, j < ops.size → d j ≠ k) → a.tmps.getD k undef = a0.tmps.getD k undef) →
      a.tmps.size = a0.tmps.size → a.defers = a0.defers → Q .normal a w)
    (ho : orderB ops = true) :
    (Code.region id ops true).wp P Q a0 w0 := by
  refine wp_region_any hm ?_
  have hd0 : Below w0.heap.size w0 { w0 with drawn := w0.drawn + 1 } := (Below.refl _ _).drew
  refine wpAny_of_inv (fun listed a w => listed.size = ops.size ∧ Below w0.heap.size w0 w ∧ a.tmps.size = a0.tmps.size ∧ a.defers = a0.defers ∧ (∀ i, listed.getD i false = true → sp i (a.tmps.getD (d i) undef) w) ∧
    (∀ k, (∀ j, listed.getD j false = true → d j ≠ k) → a.tmps.getD k undef = a0.tmps.getD k undef)) (fun _ _ _ h => h.1) ?_ ?_ _ _ _ _ ?_ ?_
  · rintro listed a w i ⟨hs, hb, hn, hdf, hsp, hk⟩ hi
    obtain ⟨h1, o, ho, hdeps⟩ := mem_ready.1 hi
    obtain ⟨e1, e2, e3, e4⟩ := plainG_spec hp i o ho
    have hilt : i < ops.size := (Array.getElem?_eq_some_iff.1 ho).1
    have hlist : ∀ j, listed.getD j false = true → j < ops.size := fun j hj => by
      rcases Nat.lt_or_ge j listed.size with h | h
      · omega
      · simp [Array.getElem?_eq_none h] at hj
    unfold wpOp
    simp only [ho]
    have hw : Region.wanted o (yielded ops a.tmps) = true := wanted_of hp hn fun g hg => by
      obtain ⟨g1, e, he, he1, he2⟩ := e2 g hg
      have hl := hdeps e he he2
      rw [he1] at hl
      exact ⟨ops[g.1]'(hlist _ hl), Array.getElem?_eq_getElem _, hG g g1 _ _ (hsp _ hl)⟩
    rw [if_pos hw]
    refine .inl (hop i o ho a w hb (fun e he hbn => hsp _ (hdeps e he hbn)) (fun k hkk => hk k (fun j hj => hkk j (hlist j hj))) _ ?_)
    intro v w' hv hbw
    have hget : ∀ k, (a.put (some (d i)) v).tmps.getD k undef = if k = d i then v else a.tmps.getD k undef := fun k => by
      simp only [Act.put, Array.getD_eq_getD_getElem?]
      by_cases hkd : k = d i
      · subst hkd; rw [if_pos rfl, Array.getElem?_setIfInBounds_self_of_lt (by omega)]; rfl
      · rw [if_neg hkd, Array.getElem?_setIfInBounds_ne (Ne.symm hkd)]
    refine ⟨by simpa using hs, hb.trans (hbw.mono hb.size), by simpa [Act.put] using hn, by simpa [Act.put] using hdf, fun j hj => ?_, fun k hkk => ?_⟩
    · rw [hget]
      by_cases hji : j = i
      · subst hji; rw [if_pos rfl]; exact hv
      · have hj' : listed.getD j false = true := by
          simpa [Array.getD_eq_getD_getElem?, Array.getElem?_setIfInBounds_ne (Ne.symm hji)] using hj
        rw [if_neg (fun h => e4 j (hlist j hj') (Ne.symm hji) h.symm)]
        exact mono _ _ _ _ (hsp j hj') hbw
    · rw [hget]
      have hne : k ≠ d i := fun h => hkk i (by simp [Array.getD_eq_getD_getElem?, hs, hilt]) h.symm
      rw [if_neg hne]
      refine hk k fun j hj => hkk j ?_
      by_cases hji : j = i
      · subst hji; simp [Array.getD_eq_getD_getElem?, hs, hilt]
      · simpa [Array.getD_eq_getD_getElem?, Array.getElem?_setIfInBounds_ne (Ne.symm hji)] using hj
  · rintro listed a w ⟨hs, hb, hn, hdf, hsp, hk⟩ hr
    have hl := all_listed ho listed hr hs
    refine hend a w hb (fun i hi => hsp i (hl i hi)) (fun k hkk => hk k fun j hj => hkk j ?_) hn hdf
    rcases Nat.lt_or_ge j listed.size with h | h
    · omega
    · simp [Array.getElem?_eq_none h] at hj
  · unfold left
    exact Nat.le_trans (List.countP_le_length) (by simp)
  · refine ⟨by simp, hd0, rfl, rfl, fun i hi => ?_, fun k _ => rfl⟩
    exfalso
    rcases Nat.lt_or_ge i ops.size with h | h
    · simp [Array.getD_eq_getD_getElem?, h] at hi
    · simp [Array.getD_eq_getD_getElem?, h] at hi
theorem wp_region_opsG {id : Nat} {l : List Oper} {a0 : Act} {w0 : World} (hm : P.follows .mixedOrders = true) (d : Nat → Nat) (G : List (Nat × Bool)) (hp : plainG l.toArray d a0.tmps.size G = true) (ho : orderB l.toArray = true)
    (sp : Nat → Value → World → Prop) (mono : ∀ i v w w', sp i v w → Below w.heap.size w w' → sp i v w') (hG : ∀ g ∈ G, ∀ v w, sp g.1 v w → v = .bool g.2)
    (hop : OpsOk P Q l.toArray d sp a0 w0 l 0)
    (hend : ∀ (a : Act) (w : World), Below w0.heap.size w0 w → (∀ i, i < l.length → sp i (a.tmps.getD (d i) undef) w) → (∀ k, outB l.toArray d k = true → a.tmps.getD k undef = a0.tmps.getD k undef) →
      a.tmps.size = a0.tmps.size → a.defers = a0.defers → Q .normal a w) :
    (Code.region id l.toArray true).wp P Q a0 w0 := by
  have hout : ∀ k, outB l.toArray d k = true → ∀ j, j < l.toArray.size → d j ≠ k := fun k hk j hj => by
    unfold outB at hk
    rw [List.all_eq_true] at hk
    exact of_decide_eq_true (hk j (List.mem_range.2 hj))
  refine wp_region_monoG hm d G hp sp mono hG (fun i o hio a w hb hdep hk K hK => ?_) (fun a w hb hsp hk => hend a w hb (by simpa using hsp) (fun k hkk => hk k (hout k hkk))) ho
  exact opsOk_at l 0 i o hop (by simpa using hio) a w K hb hdep (fun k hkk => hk k (hout k hkk)) (by rw [Nat.zero_add]; exact hK)
end
end Go.Proofs.Ytidoaccidmmalaa.MacP
