/-
  A region that draws its order, with stores that come one after the other, behind all that reads memory: the others an operation at a time, in whatever order, whatever has been stored meanwhile.
-/
import Derived.Test.YtplgaenfcaphnaaRegMono
namespace Go.Proofs.Ytplgaenfcaphnaa.MacP
open Go.RowKit
set_option linter.unusedVariables false
section
variable {P : Program} {ops : Array Oper} {Q : Exit → Act → World → Prop}
def edgeB (ops : Array Oper) (i j : Nat) : Bool := ((ops[i]?).map fun o => o.after.any fun e => decide (e.on = j) && Region.binds .any e).getD false
theorem edge_of {i j : Nat} {o : Oper} (h : edgeB ops i j = true) (ho : ops[i]? = some o) : ∃ e ∈ o.after, e.on = j ∧ Region.binds .any e = true := by
  unfold edgeB at h
  rw [ho] at h
  simp only [Option.map_some, Option.getD_some] at h
  rw [Array.any_eq_true] at h
  obtain ⟨x, hx, h4⟩ := h
  rw [Bool.and_eq_true, decide_eq_true_eq] at h4
  exact ⟨o.after[x], Array.getElem_mem hx, h4⟩
/-- What is asked of the operations: isS tells which one a store is; rd, who reads. -/
def stsB (ops : Array Oper) (d : Nat → Nat) (isS : Nat → Option Nat) (s : Nat → Nat) (m n : Nat) (rd : Nat → Bool) : Bool :=
  orderB ops &&
  ((List.range ops.size).all fun i => match isS i with
    | none => ((ops[i]?).map fun o => o.dst == some (d i) && o.guard.isNone).getD false && decide (d i < n) && (List.range ops.size).all fun j => decide (i = j) || (isS j).isSome || decide (d i ≠ d j)
    | some k => ((ops[i]?).map fun o => o.guard.isNone).getD false && decide (k < m) && decide (s k = i)) &&
  ((List.range m).all fun k => decide (s k < ops.size) && decide (isS (s k) = some k) && (decide (k = 0) || edgeB ops (s k) (s (k - 1)))) &&
  ((List.range ops.size).all fun i => !rd i || edgeB ops (s 0) i) && decide (0 < m)
structure Sts (ops : Array Oper) (d : Nat → Nat) (isS : Nat → Option Nat) (s : Nat → Nat) (m n : Nat) (rd : Nat → Bool) : Prop where
  order : orderB ops = true
  plain : ∀ i o, isS i = none → ops[i]? = some o → o.dst = some (d i) ∧ o.guard = none ∧ d i < n ∧ ∀ j, j < ops.size → isS j = none → i ≠ j → d i ≠ d j
  store : ∀ i o k, isS i = some k → ops[i]? = some o → o.guard = none ∧ k < m ∧ s k = i
  chain : ∀ k, k < m → s k < ops.size ∧ isS (s k) = some k ∧ (0 < k → edgeB ops (s k) (s (k - 1)) = true)
  reads : ∀ i, i < ops.size → rd i = true → edgeB ops (s 0) i = true
  pos : 0 < m
theorem Sts.of {d : Nat → Nat} {isS : Nat → Option Nat} {s : Nat → Nat} {m n : Nat} {rd : Nat → Bool} (h : stsB ops d isS s m n rd = true) : Sts ops d isS s m n rd := by
  unfold stsB at h
  simp only [Bool.and_eq_true, decide_eq_true_eq] at h
  obtain ⟨⟨⟨⟨h1, h2⟩, h3⟩, h4⟩, h5⟩ := h
  rw [List.all_eq_true] at h2 h3 h4
  refine ⟨h1, fun i o hi ho => ?_, fun i o k hi ho => ?_, fun k hk => ?_, fun i hi hr => ?_, h5⟩
  · have := h2 i (List.mem_range.2 (Array.getElem?_eq_some_iff.1 ho).1)
    simp only [hi, ho, Option.map_some, Option.getD_some, Bool.and_eq_true, beq_iff_eq, Option.isNone_iff_eq_none, decide_eq_true_eq, List.all_eq_true, List.mem_range, Bool.or_eq_true] at this
    obtain ⟨⟨⟨a, b⟩, c⟩, e⟩ := this
    refine ⟨a, b, c, fun j hj hs hne => ?_⟩
    rcases e j hj with (e1 | e1) | e1
    · exact absurd e1 hne
    · rw [hs] at e1; cases e1
    · exact e1
  · have := h2 i (List.mem_range.2 (Array.getElem?_eq_some_iff.1 ho).1)
    simp only [hi, ho, Option.map_some, Option.getD_some, Bool.and_eq_true, Option.isNone_iff_eq_none, decide_eq_true_eq] at this
    exact ⟨this.1.1, this.1.2, this.2⟩
  · have := h3 k (List.mem_range.2 hk)
    simp only [Bool.and_eq_true, decide_eq_true_eq, Bool.or_eq_true] at this
    exact ⟨this.1.1, this.1.2, fun h => this.2.resolve_left (by omega)⟩
  · have := h4 i (List.mem_range.2 hi)
    simp only [Bool.or_eq_true, Bool.not_eq_true'] at this
    exact this.resolve_left (by rw [hr]; simp)
def outS (ops : Array Oper) (d : Nat → Nat) (isS : Nat → Option Nat) (k : Nat) : Bool := (List.range ops.size).all fun j => (isS j).isSome || decide (d j ≠ k)
/-- What is asked of the operations, one by one. -/
def StsOk (P : Program) (Q : Exit → Act → World → Prop) (ops : Array Oper) (d : Nat → Nat) (isS : Nat → Option Nat) (rd : Nat → Bool) (sp : Nat → Value → Prop) (st : Nat → World) (a0 : Act) : List Oper → Nat → Prop
  | [], _ => True
  | o :: rest, i => (∀ (a : Act) (w : World) (K : Act → World → Prop), (rd i = true → w = st 0) → (∀ e ∈ o.after, Region.binds .any e = true → isS e.on = none → sp e.on (a.tmps.getD (d e.on) undef)) →
      (∀ k, outS ops d isS k = true → a.tmps.getD k undef = a0.tmps.getD k undef) →
      (match isS i with
        | none => ∀ v, sp i v → K (a.put (some (d i)) v) w
        | some k => K a (st (k + 1))) → (∀ k, isS i = some k → w = st k) → Oper.wp P o a w K Q) ∧ StsOk P Q ops d isS rd sp st a0 rest (i + 1)
theorem stsOk_at {d : Nat → Nat} {isS : Nat → Option Nat} {rd : Nat → Bool} {sp : Nat → Value → Prop} {st : Nat → World} {a0 : Act} : ∀ (l : List Oper) (n i : Nat) (o : Oper), StsOk P Q ops d isS rd sp st a0 l n → l[i]? = some o →
    ∀ (a : Act) (w : World) (K : Act → World → Prop), (rd (n + i) = true → w = st 0) → (∀ e ∈ o.after, Region.binds .any e = true → isS e.on = none → sp e.on (a.tmps.getD (d e.on) undef)) →
      (∀ k, outS ops d isS k = true → a.tmps.getD k undef = a0.tmps.getD k undef) →
      (match isS (n + i) with
        | none => ∀ v, sp (n + i) v → K (a.put (some (d (n + i))) v) w
        | some k => K a (st (k + 1))) → (∀ k, isS (n + i) = some k → w = st k) → Oper.wp P o a w K Q
  | [], n, i, o, _, h => by simp at h
  | p :: rest, n, 0, o, hk, h => by
    obtain rfl : p = o := by simpa using h
    exact hk.1
  | p :: rest, n, i + 1, o, hk, h => by
    have := stsOk_at rest (n + 1) i o hk.2 (by simpa using h)
    rw [show n + 1 + i = n + (i + 1) by omega] at this
    exact this
structure StsInv (ops : Array Oper) (d : Nat → Nat) (isS : Nat → Option Nat) (s : Nat → Nat) (m : Nat) (sp : Nat → Value → Prop) (st : Nat → World) (a0 : Act) (listed : Array Bool) (a : Act) (w : World) : Prop where
  ls : listed.size = ops.size
  sz : a.tmps.size = a0.tmps.size
  df : a.defers = a0.defers
  vs : ∀ i, listed.getD i false = true → isS i = none → sp i (a.tmps.getD (d i) undef)
  ks : ∀ k, (∀ j, listed.getD j false = true → isS j = none → d j ≠ k) → a.tmps.getD k undef = a0.tmps.getD k undef
  dn : ∀ j o, listed.getD j false = true → ops[j]? = some o → ∀ e ∈ o.after, Region.binds .any e = true → listed.getD e.on false = true
  w : ∃ k, k ≤ m ∧ w = st k ∧ (∀ j, j < k → listed.getD (s j) false = true) ∧ (∀ j, k ≤ j → j < m → listed.getD (s j) false = false)
theorem wp_region_sts {id : Nat} {l : List Oper} {a0 : Act} {w0 : World} (hm : P.follows .mixedOrders = true) (d : Nat → Nat) (isS : Nat → Option Nat) (s : Nat → Nat) (m : Nat) (rd : Nat → Bool) (hE : stsB l.toArray d isS s m a0.tmps.size rd = true)
    (sp : Nat → Value → Prop) (st : Nat → World) (h0 : st 0 = { w0 with drawn := w0.drawn + 1 })
    (hop : StsOk P Q l.toArray d isS rd sp st a0 l 0)
    (hend : ∀ (a : Act), (∀ i, i < l.length → isS i = none → sp i (a.tmps.getD (d i) undef)) → (∀ k, outS l.toArray d isS k = true → a.tmps.getD k undef = a0.tmps.getD k undef) →
      a.tmps.size = a0.tmps.size → a.defers = a0.defers → Q .normal a (st m)) :
    (Code.region id l.toArray true).wp P Q a0 w0 := by
  have E := Sts.of hE
  refine wp_region_any hm ?_
  have hll : l.toArray.size = l.length := by simp
  have hget : ∀ i : Nat, l.toArray[i]? = l[i]? := fun i => List.getElem?_toArray
  refine wpAny_of_inv (StsInv l.toArray d isS s m sp st a0) (fun _ _ _ h => h.ls) ?_ ?_ _ _ _ _ ?_ ?_
  · intro listed a w i h hi
    obtain ⟨h1, o, hoi, hdeps⟩ := mem_ready.1 hi
    have hilt : i < l.toArray.size := (Array.getElem?_eq_some_iff.1 hoi).1
    have hoi' : l[i]? = some o := by rw [← hget]; exact hoi
    have hli : listed.getD i false = false := by
      have : i < listed.size := by rw [h.ls]; exact hilt
      simp only [Array.getD_eq_getD_getElem?, Array.getElem?_eq_getElem this, Option.getD_some] at h1 ⊢
      exact h1
    have hset : ∀ j, (listed.setIfInBounds i true).getD j false = true → j = i ∨ listed.getD j false = true := fun j hj => by
      by_cases hji : j = i
      · exact .inl hji
      · exact .inr (by simpa [Array.getD_eq_getD_getElem?, Array.getElem?_setIfInBounds_ne (Ne.symm hji)] using hj)
    have hup : ∀ j, listed.getD j false = true → (listed.setIfInBounds i true).getD j false = true := fun j hj => by
      by_cases hji : j = i
      · subst hji; rw [hli] at hj; cases hj
      · simpa [Array.getD_eq_getD_getElem?, Array.getElem?_setIfInBounds_ne (Ne.symm hji)] using hj
    have hself : (listed.setIfInBounds i true).getD i false = true := by
      have : i < listed.size := by rw [h.ls]; exact hilt
      simp [this]
    have hdn : ∀ j o', (listed.setIfInBounds i true).getD j false = true → l.toArray[j]? = some o' → ∀ e ∈ o'.after, Region.binds .any e = true → (listed.setIfInBounds i true).getD e.on false = true := fun j o' hj hoj e he hb => by
      rcases hset j hj with rfl | hj'
      · obtain rfl : o' = o := by rw [hoi] at hoj; exact (Option.some.inj hoj).symm
        exact hup _ (hdeps e he hb)
      · exact hup _ (h.dn j o' hj' hoj e he hb)
    have hlt : ∀ j, listed.getD j false = true → j < l.toArray.size := fun j hj => by
      rw [← h.ls]
      rcases Nat.lt_or_ge j listed.size with q | q
      · exact q
      · simp [Array.getElem?_eq_none q] at hj
    have hks : ∀ k, outS l.toArray d isS k = true → a.tmps.getD k undef = a0.tmps.getD k undef := fun k hk => h.ks k fun j hj hs => by
      unfold outS at hk
      rw [List.all_eq_true] at hk
      have := hk j (List.mem_range.2 (hlt j hj))
      simp only [Bool.or_eq_true, decide_eq_true_eq] at this
      rcases this with q | q
      · rw [hs] at q; cases q
      · exact q
    obtain ⟨k, hkm, hwk, hk1, hk2⟩ := h.w
    have hrd : rd i = true → w = st 0 := fun hr => by
      rcases Nat.eq_zero_or_pos k with q | q
      · rw [q] at hwk; exact hwk
      · exfalso
        obtain ⟨c1, _, _⟩ := E.chain 0 E.pos
        obtain ⟨o0, ho0⟩ : ∃ o0, l.toArray[s 0]? = some o0 := ⟨_, Array.getElem?_eq_getElem c1⟩
        obtain ⟨e, he, hon, hb⟩ := edge_of (E.reads i hilt hr) ho0
        have := h.dn (s 0) o0 (hk1 0 q) ho0 e he hb
        rw [hon, hli] at this; cases this
    unfold wpOp
    simp only [hoi]
    cases hs : isS i with
    | none =>
      obtain ⟨e1, e2, e3, e4⟩ := E.plain i o hs hoi
      have hw : Region.wanted o (yielded l.toArray a.tmps) = true := by simp [Region.wanted, e2]
      rw [if_pos hw]
      refine .inl (stsOk_at l 0 i o hop hoi' a w _ (by rw [Nat.zero_add]; exact hrd) (fun e he hb hse => h.vs _ (hdeps e he hb) hse) hks ?_ (by rw [Nat.zero_add, hs]; intro k hk; cases hk))
      rw [Nat.zero_add, hs]
      simp only
      intro v hv
      have hgp : ∀ q, (a.put (some (d i)) v).tmps.getD q undef = if q = d i then v else a.tmps.getD q undef := fun q => by
        simp only [Act.put, Array.getD_eq_getD_getElem?]
        by_cases hkd : q = d i
        · subst hkd; rw [if_pos rfl, Array.getElem?_setIfInBounds_self_of_lt (by rw [h.sz]; exact e3)]; rfl
        · rw [if_neg hkd, Array.getElem?_setIfInBounds_ne (Ne.symm hkd)]
      refine ⟨by simpa using h.ls, by simpa [Act.put] using h.sz, by simpa [Act.put] using h.df, fun j hj hsj => ?_, fun q hq => ?_, hdn, k, hkm, hwk, fun j hj => hup _ (hk1 j hj), fun j hj hjm => ?_⟩
      · rw [hgp]
        by_cases hji : j = i
        · subst hji; rw [if_pos rfl]; exact hv
        · have hj' := (hset j hj).resolve_left hji
          rw [if_neg (fun q => e4 j (hlt j hj') hsj (Ne.symm hji) q.symm)]
          exact h.vs j hj' hsj
      · rw [hgp]
        have hne : q ≠ d i := fun e => hq i hself hs e.symm
        rw [if_neg hne]
        exact h.ks q fun j hj hsj => hq j (hup j hj) hsj
      · have hne : s j ≠ i := fun e => by have := (E.chain j hjm).2.1; rw [e, hs] at this; cases this
        have := hk2 j hj hjm
        simpa [Array.getD_eq_getD_getElem?, Array.getElem?_setIfInBounds_ne (Ne.symm hne)] using this
    | some c =>
      obtain ⟨e2, hcm, hsc⟩ := E.store i o c hs hoi
      have hw : Region.wanted o (yielded l.toArray a.tmps) = true := by simp [Region.wanted, e2]
      rw [if_pos hw]
      have hck : c = k := by
        rcases Nat.lt_trichotomy c k with q | q | q
        · have := hk1 c q; rw [hsc, hli] at this; cases this
        · exact q
        · exfalso
          have hed := (E.chain c hcm).2.2 (by omega)
          rw [hsc] at hed
          obtain ⟨e, he, hon, hb⟩ := edge_of hed hoi
          have h3 := hdeps e he hb
          rw [hon, hk2 (c - 1) (by omega) (by omega)] at h3; cases h3
      subst hck
      refine .inl (stsOk_at l 0 i o hop hoi' a w _ (by rw [Nat.zero_add]; exact hrd) (fun e he hb hse => h.vs _ (hdeps e he hb) hse) hks ?_ (by rw [Nat.zero_add, hs]; intro k hk; obtain rfl := Option.some.inj hk; exact hwk))
      rw [Nat.zero_add, hs]
      simp only
      refine ⟨by simpa using h.ls, h.sz, h.df, fun j hj hsj => ?_, fun q hq => h.ks q fun j hj hsj => hq j (hup j hj) hsj, hdn, c + 1, by omega, rfl, fun j hj => ?_, fun j hj hjm => ?_⟩
      · rcases hset j hj with rfl | hj'
        · rw [hs] at hsj; cases hsj
        · exact h.vs j hj' hsj
      · by_cases hjc : j = c
        · subst hjc; rw [hsc]; exact hself
        · exact hup _ (hk1 j (by omega))
      · have hne : s j ≠ i := fun e => by have := (E.chain j hjm).2.1; rw [e, hs] at this; have := Option.some.inj this; omega
        have := hk2 j (by omega) hjm
        simpa [Array.getD_eq_getD_getElem?, Array.getElem?_setIfInBounds_ne (Ne.symm hne)] using this
  · intro listed a w h hr
    have hl := all_listed E.order listed hr h.ls
    obtain ⟨k, hkm, hwk, hk1, hk2⟩ := h.w
    have hk : k = m := by
      rcases Nat.lt_or_ge k m with q | q
      · have := hk2 k (Nat.le_refl _) q
        rw [hl (s k) (E.chain k q).1] at this; cases this
      · omega
    subst hk
    rw [hwk]
    refine hend a (fun i hi hs => h.vs i (hl i (by omega)) hs) (fun q hq => h.ks q fun j hj hs => ?_) h.sz h.df
    unfold outS at hq
    rw [List.all_eq_true] at hq
    have hjl : j < l.toArray.size := by
      rw [← h.ls]
      rcases Nat.lt_or_ge j listed.size with q | q
      · exact q
      · simp [Array.getElem?_eq_none q] at hj
    have := hq j (List.mem_range.2 hjl)
    simp only [Bool.or_eq_true, decide_eq_true_eq] at this
    rcases this with q | q
    · rw [hs] at q; cases q
    · exact q
  · unfold left
    exact Nat.le_trans (List.countP_le_length) (by simp)
  · have hf : ∀ i, (Array.replicate l.toArray.size false).getD i false = true → False := fun i hi => by
      simp only [Array.getD_eq_getD_getElem?, Array.getElem?_replicate] at hi
      split at hi <;> simp at hi
    exact ⟨by simp, rfl, rfl, fun i hi => (hf i hi).elim, fun k _ => rfl, fun j _ hj => (hf j hj).elim, 0, Nat.zero_le _, h0.symm, fun j hj => absurd hj (by omega), fun j _ hjm => by
      cases hq : (Array.replicate l.toArray.size false).getD (s j) false with
      | false => rfl
      | true => exact (hf _ hq).elim⟩
end
end Go.Proofs.Ytplgaenfcaphnaa.MacP
