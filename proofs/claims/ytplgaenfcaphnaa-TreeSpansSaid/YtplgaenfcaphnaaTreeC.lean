/-
  A region that draws its order, in which variables are made and set: some operations only read or make memory, some make a box each, some fill one each; an operation at a time, in whatever order.
-/
import Derived.Test.YtplgaenfcaphnaaRegSts
import Derived.Test.YtplgaenfcaphnaaBx
import Derived.Test.YtplgaenfcaphnaaTreeA
import Derived.Test.YtplgaenfcaphnaaLanP
import Derived.Test.YtplgaenfcaphnaaVecA
import Derived.Stop.Asserts
import Derived.BigRegion
import Derived.Test.YtplgaenfcaphnaaRegLit
import Derived.Test.YtplgaenfcaphnaaRegRel
namespace Go.Proofs.Ytplgaenfcaphnaa.MacP
open Go.RowKit Go.Proofs.Ytplgaenfcaphnaa.BoxP Go.Sort
set_option linter.unusedVariables false
section
variable {P : Program} {ops : Array Oper} {Q : Exit → Act → World → Prop}
/-- What is asked of the operations: isB tells which one a box's making is, isS which one a store; bx, s: where these stand. -/
def boxB (ops : Array Oper) (d : Nat → Nat) (isB isS : Nat → Option Nat) (bx s : Nat → Nat) (m n : Nat) : Bool :=
  orderB ops &&
  ((List.range ops.size).all fun i => match isS i with
    | none => ((ops[i]?).map fun o => o.dst == some (d i) && o.guard.isNone).getD false && decide (d i < n) && ((isB i).all fun k => decide (k < m) && decide (bx k = i)) && (List.range ops.size).all fun j => decide (i = j) || (isS j).isSome || decide (d i ≠ d j)
    | some k => ((ops[i]?).map fun o => o.guard.isNone).getD false && decide (k < m) && decide (s k = i) && edgeB ops i (bx k)) &&
  ((List.range m).all fun k => decide (bx k < ops.size) && decide (isB (bx k) = some k) && decide (isS (bx k) = none) && decide (s k < ops.size) && decide (isS (s k) = some k))
structure Box (ops : Array Oper) (d : Nat → Nat) (isB isS : Nat → Option Nat) (bx s : Nat → Nat) (m n : Nat) : Prop where
  order : orderB ops = true
  plain : ∀ i o, isS i = none → ops[i]? = some o → o.dst = some (d i) ∧ o.guard = none ∧ d i < n ∧ (∀ k, isB i = some k → k < m ∧ bx k = i) ∧ ∀ j, j < ops.size → isS j = none → i ≠ j → d i ≠ d j
  store : ∀ i o k, isS i = some k → ops[i]? = some o → o.guard = none ∧ k < m ∧ s k = i ∧ edgeB ops i (bx k) = true
  boxes : ∀ k, k < m → bx k < ops.size ∧ isB (bx k) = some k ∧ isS (bx k) = none ∧ s k < ops.size ∧ isS (s k) = some k
theorem Box.of {d : Nat → Nat} {isB isS : Nat → Option Nat} {bx s : Nat → Nat} {m n : Nat} (h : boxB ops d isB isS bx s m n = true) : Box ops d isB isS bx s m n := by
  unfold boxB at h
  simp only [Bool.and_eq_true] at h
  obtain ⟨⟨h1, h2⟩, h3⟩ := h
  rw [List.all_eq_true] at h2 h3
  refine ⟨h1, fun i o hi ho => ?_, fun i o k hi ho => ?_, fun k hk => ?_⟩
  · have := h2 i (List.mem_range.2 (Array.getElem?_eq_some_iff.1 ho).1)
    simp only [hi, ho, Option.map_some, Option.getD_some, Bool.and_eq_true, beq_iff_eq, Option.isNone_iff_eq_none, decide_eq_true_eq, List.all_eq_true, List.mem_range, Bool.or_eq_true] at this
    obtain ⟨⟨⟨⟨a, b⟩, c⟩, q⟩, e⟩ := this
    refine ⟨a, b, c, fun k hk => ?_, fun j hj hs hne => ?_⟩
    · rw [hk] at q
      simpa using q
    · rcases e j hj with (e1 | e1) | e1
      · exact absurd e1 hne
      · rw [hs] at e1; cases e1
      · exact e1
  · have := h2 i (List.mem_range.2 (Array.getElem?_eq_some_iff.1 ho).1)
    simp only [hi, ho, Option.map_some, Option.getD_some, Bool.and_eq_true, Option.isNone_iff_eq_none, decide_eq_true_eq] at this
    exact ⟨this.1.1.1, this.1.1.2, this.1.2, this.2⟩
  · have := h3 k (List.mem_range.2 hk)
    simp only [Bool.and_eq_true, decide_eq_true_eq] at this
    exact ⟨this.1.1.1.1, this.1.1.1.2, this.1.1.2, this.1.2, this.2⟩
/-- What is asked of the operations, one by one. -/
def BoxOk (P : Program) (Q : Exit → Act → World → Prop) (ops : Array Oper) (d : Nat → Nat) (isB isS : Nat → Option Nat) (bx : Nat → Nat) (T : Nat → TypeId) (z c : Nat → Array Value) (sp : Nat → Value → Prop) (a0 : Act) (w0 : World) : List Oper → Nat → Prop
  | [], _ => True
  | o :: rest, i => (∀ (a : Act) (w : World) (K : Act → World → Prop), Below w0.heap.size w0 w → (∀ e ∈ o.after, Region.binds .any e = true → isS e.on = none → isB e.on = none → sp e.on (a.tmps.getD (d e.on) undef)) →
      (∀ k, outS ops d isS k = true → a.tmps.getD k undef = a0.tmps.getD k undef) →
      (match isS i with
        | none => match isB i with
          | none => (∀ v w', sp i v → Below w.heap.size w w' → K (a.put (some (d i)) v) w') → Oper.wp P o a w K Q
          | some k => (∀ w', w' = w.alloc (.cells (z k) (T k)) → K (a.put (some (d i)) (.pointer (some ⟨w.heap.size, 0, none⟩))) w') → Oper.wp P o a w K Q
        | some k => ∀ p, a.tmps.getD (d (bx k)) undef = .pointer (some ⟨p, 0, none⟩) → Bx w p (T k) (z k) → (∀ w', Bx w' p (T k) (c k) → w.grownBy w' (some p) → K a w') → Oper.wp P o a w K Q)) ∧ BoxOk P Q ops d isB isS bx T z c sp a0 w0 rest (i + 1)
theorem boxOk_at {d : Nat → Nat} {isB isS : Nat → Option Nat} {bx : Nat → Nat} {T : Nat → TypeId} {z c : Nat → Array Value} {sp : Nat → Value → Prop} {a0 : Act} {w0 : World} : ∀ (l : List Oper) (n i : Nat) (o : Oper), BoxOk P Q ops d isB isS bx T z c sp a0 w0 l n → l[i]? = some o →
    ∀ (a : Act) (w : World) (K : Act → World → Prop), Below w0.heap.size w0 w → (∀ e ∈ o.after, Region.binds .any e = true → isS e.on = none → isB e.on = none → sp e.on (a.tmps.getD (d e.on) undef)) →
      (∀ k, outS ops d isS k = true → a.tmps.getD k undef = a0.tmps.getD k undef) →
      (match isS (n + i) with
        | none => match isB (n + i) with
          | none => (∀ v w', sp (n + i) v → Below w.heap.size w w' → K (a.put (some (d (n + i))) v) w') → Oper.wp P o a w K Q
          | some k => (∀ w', w' = w.alloc (.cells (z k) (T k)) → K (a.put (some (d (n + i))) (.pointer (some ⟨w.heap.size, 0, none⟩))) w') → Oper.wp P o a w K Q
        | some k => ∀ p, a.tmps.getD (d (bx k)) undef = .pointer (some ⟨p, 0, none⟩) → Bx w p (T k) (z k) → (∀ w', Bx w' p (T k) (c k) → w.grownBy w' (some p) → K a w') → Oper.wp P o a w K Q)
  | [], n, i, o, _, h => by simp at h
  | p :: rest, n, 0, o, hk, h => by
    obtain rfl : p = o := by simpa using h
    exact hk.1
  | p :: rest, n, i + 1, o, hk, h => by
    have := boxOk_at rest (n + 1) i o hk.2 (by simpa using h)
    rw [show n + 1 + i = n + (i + 1) by omega] at this
    exact this
def yes (listed : Array Bool) (i : Nat) : Prop := listed.getD i false = true
instance (listed : Array Bool) (i : Nat) : Decidable (yes listed i) := by unfold yes; infer_instance
theorem ite_iff {α : Type} {p q : Prop} [Decidable p] [Decidable q] (h : p ↔ q) {x y : α} : (if p then x else y) = if q then x else y := by
  by_cases hp : p
  · rw [if_pos hp, if_pos (h.1 hp)]
  · rw [if_neg hp, if_neg (fun hq => hp (h.2 hq))]
structure BoxInv (ops : Array Oper) (d : Nat → Nat) (isB isS : Nat → Option Nat) (bx s : Nat → Nat) (m : Nat) (T : Nat → TypeId) (z c : Nat → Array Value) (sp : Nat → Value → Prop) (a0 : Act) (w0 : World) (listed : Array Bool) (a : Act) (w : World) : Prop where
  ls : listed.size = ops.size
  sz : a.tmps.size = a0.tmps.size
  df : a.defers = a0.defers
  vs : ∀ i, yes listed i → isS i = none → isB i = none → sp i (a.tmps.getD (d i) undef)
  bs : ∀ k, k < m → yes listed (bx k) → ∃ p, a.tmps.getD (d (bx k)) undef = .pointer (some ⟨p, 0, none⟩) ∧ w0.heap.size ≤ p ∧ Bx w p (T k) (if yes listed (s k) then c k else z k)
  ne : ∀ j k, j < m → k < m → j ≠ k → yes listed (bx j) → yes listed (bx k) → a.tmps.getD (d (bx j)) undef ≠ a.tmps.getD (d (bx k)) undef
  ks : ∀ k, (∀ j, yes listed j → isS j = none → d j ≠ k) → a.tmps.getD k undef = a0.tmps.getD k undef
  dn : ∀ j o, yes listed j → ops[j]? = some o → ∀ e ∈ o.after, Region.binds .any e = true → yes listed e.on
  w : Below w0.heap.size w0 w
set_option maxHeartbeats 1000000 in
theorem wp_region_box {id : Nat} {l : List Oper} {a0 : Act} {w0 : World} (hm : P.follows .mixedOrders = true) (d : Nat → Nat) (isB isS : Nat → Option Nat) (bx s : Nat → Nat) (m : Nat) (hE : boxB l.toArray d isB isS bx s m a0.tmps.size = true)
    (T : Nat → TypeId) (z c : Nat → Array Value) (sp : Nat → Value → Prop)
    (hop : BoxOk P Q l.toArray d isB isS bx T z c sp a0 w0 l 0)
    (hend : ∀ (a : Act) (w : World), (∀ i, i < l.length → isS i = none → isB i = none → sp i (a.tmps.getD (d i) undef)) → (∀ k, k < m → ∃ p, a.tmps.getD (d (bx k)) undef = .pointer (some ⟨p, 0, none⟩) ∧ w0.heap.size ≤ p ∧ Bx w p (T k) (c k)) →
      (∀ j k, j < m → k < m → j ≠ k → a.tmps.getD (d (bx j)) undef ≠ a.tmps.getD (d (bx k)) undef) →
      (∀ k, outS l.toArray d isS k = true → a.tmps.getD k undef = a0.tmps.getD k undef) → a.tmps.size = a0.tmps.size → a.defers = a0.defers → Below w0.heap.size w0 w → Q .normal a w) :
    (Code.region id l.toArray true).wp P Q a0 w0 := by
  have E := Box.of hE
  refine wp_region_any hm ?_
  have hll : l.toArray.size = l.length := by simp
  have hget : ∀ i : Nat, l.toArray[i]? = l[i]? := fun i => List.getElem?_toArray
  refine wpAny_of_inv (BoxInv l.toArray d isB isS bx s m T z c sp a0 w0) (fun _ _ _ h => h.ls) ?_ ?_ _ _ _ _ ?_ ?_
  · intro listed a w i h hi
    obtain ⟨h1, o, hoi, hdeps⟩ := mem_ready.1 hi
    have hilt : i < l.toArray.size := (Array.getElem?_eq_some_iff.1 hoi).1
    have hoi' : l[i]? = some o := by rw [← hget]; exact hoi
    have hli : ¬ yes listed i := by
      have : i < listed.size := by rw [h.ls]; exact hilt
      unfold yes
      simp only [Array.getD_eq_getD_getElem?, Array.getElem?_eq_getElem this, Option.getD_some] at h1 ⊢
      rw [h1]; simp
    have hset : ∀ j, yes (listed.setIfInBounds i true) j → j = i ∨ yes listed j := fun j hj => by
      by_cases hji : j = i
      · exact .inl hji
      · right
        unfold yes at hj ⊢
        simpa [Array.getD_eq_getD_getElem?, Array.getElem?_setIfInBounds_ne (Ne.symm hji)] using hj
    have hup : ∀ j, yes listed j → yes (listed.setIfInBounds i true) j := fun j hj => by
      by_cases hji : j = i
      · subst hji; exact absurd hj hli
      · unfold yes at hj ⊢
        simpa [Array.getD_eq_getD_getElem?, Array.getElem?_setIfInBounds_ne (Ne.symm hji)] using hj
    have hself : yes (listed.setIfInBounds i true) i := by
      have : i < listed.size := by rw [h.ls]; exact hilt
      unfold yes
      simp [this]
    have hdn : ∀ j o', yes (listed.setIfInBounds i true) j → l.toArray[j]? = some o' → ∀ e ∈ o'.after, Region.binds .any e = true → yes (listed.setIfInBounds i true) e.on := fun j o' hj hoj e he hb => by
      rcases hset j hj with rfl | hj'
      · obtain rfl : o' = o := by rw [hoi] at hoj; exact (Option.some.inj hoj).symm
        exact hup _ (hdeps e he hb)
      · exact hup _ (h.dn j o' hj' hoj e he hb)
    have hlt : ∀ j, yes listed j → j < l.toArray.size := fun j hj => by
      rw [← h.ls]
      rcases Nat.lt_or_ge j listed.size with q | q
      · exact q
      · unfold yes at hj; simp [Array.getElem?_eq_none q] at hj
    have hks : ∀ k, outS l.toArray d isS k = true → a.tmps.getD k undef = a0.tmps.getD k undef := fun k hk => h.ks k fun j hj hs => by
      unfold outS at hk
      rw [List.all_eq_true] at hk
      have := hk j (List.mem_range.2 (hlt j hj))
      simp only [Bool.or_eq_true, decide_eq_true_eq] at this
      rcases this with q | q
      · rw [hs] at q; cases q
      · exact q
    unfold wpOp
    simp only [hoi]
    have hob := boxOk_at l 0 i o hop hoi' a w
    rw [Nat.zero_add] at hob
    cases hs : isS i with
    | none =>
      obtain ⟨e1, e2, e3, e5, e4⟩ := E.plain i o hs hoi
      have hw : Region.wanted o (yielded l.toArray a.tmps) = true := by simp [Region.wanted, e2]
      rw [if_pos hw]
      have hgp : ∀ v q, (a.put (some (d i)) v).tmps.getD q undef = if q = d i then v else a.tmps.getD q undef := fun v q => by
        simp only [Act.put, Array.getD_eq_getD_getElem?]
        by_cases hkd : q = d i
        · subst hkd; rw [if_pos rfl, Array.getElem?_setIfInBounds_self_of_lt (by rw [h.sz]; exact e3)]; rfl
        · rw [if_neg hkd, Array.getElem?_setIfInBounds_ne (Ne.symm hkd)]
      have hold : ∀ v j, yes listed j → isS j = none → (a.put (some (d i)) v).tmps.getD (d j) undef = a.tmps.getD (d j) undef := fun v j hj hsj => by
        have hji : i ≠ j := fun e => hli (e ▸ hj)
        rw [hgp, if_neg (fun q => e4 j (hlt j hj) hsj hji q.symm)]
      have hkeep : ∀ v q, (∀ j, yes (listed.setIfInBounds i true) j → isS j = none → d j ≠ q) → (a.put (some (d i)) v).tmps.getD q undef = a0.tmps.getD q undef := fun v q hq => by
        rw [hgp, if_neg (fun e => hq i hself hs e.symm)]
        exact h.ks q fun j hj hsj => hq j (hup j hj) hsj
      have hsn : ∀ k, k < m → (yes (listed.setIfInBounds i true) (s k) ↔ yes listed (s k)) := fun k hk => ⟨fun q => (hset _ q).resolve_left (fun e => by have := (E.boxes k hk).2.2.2.2; rw [e, hs] at this; cases this), hup _⟩
      rw [hs] at hob
      cases hbi : isB i with
      | none =>
        rw [hbi] at hob
        simp only at hob
        refine .inl (hob _ h.w (fun e he hb q1 q2 => h.vs _ (hdeps e he hb) q1 q2) hks ?_)
        intro v w' hv hbw
        refine ⟨by simpa using h.ls, by simpa [Act.put] using h.sz, by simpa [Act.put] using h.df, fun j hj hsj hbj => ?_, fun k hk hj => ?_, fun j k hj hk hjk h2 h3 => ?_, hkeep v, hdn, h.w.trans (hbw.mono h.w.size)⟩
        · rcases hset j hj with rfl | hj'
          · rw [hgp, if_pos rfl]; exact hv
          · rw [hold v j hj' hsj]; exact h.vs j hj' hsj hbj
        · have hb := E.boxes k hk
          have hj' := (hset _ hj).resolve_left (fun e => by rw [e, hbi] at hb; cases hb.2.1)
          obtain ⟨p, p1, p2, p3⟩ := h.bs k hk hj'
          refine ⟨p, by rw [hold v _ hj' hb.2.2.1]; exact p1, p2, ?_⟩
          rw [ite_iff (hsn k hk)]
          exact p3.below hbw
        · have hbj := E.boxes j hj
          have hbk := E.boxes k hk
          have h2' := (hset _ h2).resolve_left (fun e => by rw [e, hbi] at hbj; cases hbj.2.1)
          have h3' := (hset _ h3).resolve_left (fun e => by rw [e, hbi] at hbk; cases hbk.2.1)
          rw [hold v _ h2' hbj.2.2.1, hold v _ h3' hbk.2.2.1]
          exact h.ne j k hj hk hjk h2' h3'
      | some kb =>
        rw [hbi] at hob
        simp only at hob
        obtain ⟨hkm, hbx⟩ := e5 kb hbi
        refine .inl (hob _ h.w (fun e he hb q1 q2 => h.vs _ (hdeps e he hb) q1 q2) hks ?_)
        rintro w' rfl
        have hbw : Below w.heap.size w (w.alloc (.cells (z kb) (T kb))) := (Below.refl _ _).alloc (Nat.le_refl _) _
        have hother : ∀ k, k < m → k ≠ kb → bx k ≠ i := fun k hk hne e => by
          have := (E.boxes k hk).2.1
          rw [e, hbi] at this
          exact hne (Option.some.inj this).symm
        refine ⟨by simpa using h.ls, by simpa [Act.put] using h.sz, by simpa [Act.put] using h.df, fun j hj hsj hbj => ?_, fun k hk hj => ?_, fun j k hj hk hjk h2 h3 => ?_, hkeep _, hdn, h.w.trans (hbw.mono h.w.size)⟩
        · rcases hset j hj with rfl | hj'
          · rw [hbi] at hbj; cases hbj
          · rw [hold _ j hj' hsj]; exact h.vs j hj' hsj hbj
        · rw [ite_iff (hsn k hk)]
          by_cases hkk : k = kb
          · subst hkk
            refine ⟨w.heap.size, by rw [hbx, hgp, if_pos rfl], h.w.size, ?_⟩
            have hns : ¬ yes listed (s k) := fun q => by
              have hb := E.boxes k hk
              obtain ⟨os, hos⟩ : ∃ os, l.toArray[s k]? = some os := ⟨_, Array.getElem?_eq_getElem hb.2.2.2.1⟩
              obtain ⟨_, _, _, hed⟩ := E.store (s k) os k hb.2.2.2.2 hos
              obtain ⟨e, he, hon, hbd⟩ := edge_of hed hos
              have := h.dn (s k) os q hos e he hbd
              rw [hon, hbx] at this
              exact hli this
            rw [if_neg hns]
            exact Bx.new _ _ _ rfl
          · have hj' := (hset _ hj).resolve_left (hother k hk hkk)
            obtain ⟨p, p1, p2, p3⟩ := h.bs k hk hj'
            exact ⟨p, by rw [hold _ _ hj' (E.boxes k hk).2.2.1]; exact p1, p2, p3.below hbw⟩
        · have key : ∀ k, k < m → k ≠ kb → yes (listed.setIfInBounds i true) (bx k) → (a.put (some (d i)) (.pointer (some ⟨w.heap.size, 0, none⟩))).tmps.getD (d (bx k)) undef ≠ .pointer (some ⟨w.heap.size, 0, none⟩) := fun k hk hne hy => by
            have hy' := (hset _ hy).resolve_left (hother k hk hne)
            obtain ⟨p, p1, p2, p3⟩ := h.bs k hk hy'
            rw [hold _ _ hy' (E.boxes k hk).2.2.1, p1]
            intro e
            have hlt := p3.lt
            injection e with e
            injection e with e
            injection e with e _ _
            omega
          by_cases q1 : j = kb
          · subst q1
            have hv : (a.put (some (d i)) (.pointer (some ⟨w.heap.size, 0, none⟩))).tmps.getD (d (bx j)) undef = .pointer (some ⟨w.heap.size, 0, none⟩) := by rw [hbx, hgp, if_pos rfl]
            rw [hv]
            exact fun e => key k hk (Ne.symm hjk) h3 e.symm
          · by_cases q2 : k = kb
            · subst q2
              have hv : (a.put (some (d i)) (.pointer (some ⟨w.heap.size, 0, none⟩))).tmps.getD (d (bx k)) undef = .pointer (some ⟨w.heap.size, 0, none⟩) := by rw [hbx, hgp, if_pos rfl]
              rw [hv]
              exact key j hj hjk h2
            · have h2' := (hset _ h2).resolve_left (hother j hj q1)
              have h3' := (hset _ h3).resolve_left (hother k hk q2)
              rw [hold _ _ h2' (E.boxes j hj).2.2.1, hold _ _ h3' (E.boxes k hk).2.2.1]
              exact h.ne j k hj hk hjk h2' h3'
    | some ks =>
      obtain ⟨e2, hkm, hsk, hed⟩ := E.store i o ks hs hoi
      have hw : Region.wanted o (yielded l.toArray a.tmps) = true := by simp [Region.wanted, e2]
      rw [if_pos hw]
      rw [hs] at hob
      simp only at hob
      obtain ⟨e, he, hon, hbd⟩ := edge_of hed hoi
      have hyb : yes listed (bx ks) := by have := hdeps e he hbd; rwa [hon] at this
      obtain ⟨p, p1, p2, p3⟩ := h.bs ks hkm hyb
      rw [hsk, if_neg hli] at p3
      refine .inl (hob _ h.w (fun e he hb q1 q2 => h.vs _ (hdeps e he hb) q1 q2) hks p p1 p3 ?_)
      intro w' hb' hg'
      have hnb : ∀ k, k < m → bx k ≠ i := fun k hk e => by have := (E.boxes k hk).2.2.1; rw [e, hs] at this; cases this
      refine ⟨by simpa using h.ls, h.sz, h.df, fun j hj hsj hbj => ?_, fun k hk hj => ?_, fun j k hj hk hjk h2 h3 => h.ne j k hj hk hjk ((hset _ h2).resolve_left (hnb j hj)) ((hset _ h3).resolve_left (hnb k hk)), fun q hq => h.ks q fun j hj hsj => hq j (hup j hj) hsj, hdn, ?_⟩
      · rcases hset j hj with rfl | hj'
        · rw [hs] at hsj; cases hsj
        · exact h.vs j hj' hsj hbj
      · have hj' := (hset _ hj).resolve_left (hnb k hk)
        by_cases hkk : k = ks
        · subst hkk
          rw [hsk, if_pos hself]
          exact ⟨p, p1, p2, hb'⟩
        · obtain ⟨q, q1, q2, q3⟩ := h.bs k hk hj'
          have hiff : yes (listed.setIfInBounds i true) (s k) ↔ yes listed (s k) := ⟨fun y => (hset _ y).resolve_left (fun e => by have := (E.boxes k hk).2.2.2.2; rw [e, hs] at this; exact hkk (Option.some.inj this).symm), hup _⟩
          rw [ite_iff hiff]
          refine ⟨q, q1, q2, q3.grown hg' (fun e => ?_)⟩
          have hpq : q = p := Option.some.inj e
          exact h.ne k ks hk hkm hkk hj' hyb (by rw [q1, p1, hpq])
      · exact ⟨hg'.os.trans h.w.os, hg'.tape.trans h.w.tape, hg'.output.trans h.w.output, Nat.le_trans h.w.size hg'.size, fun k hk => (hg'.block k (Nat.lt_of_lt_of_le hk h.w.size) (fun e => by have := Option.some.inj e; omega)).trans (h.w.block k hk)⟩
  · intro listed a w h hr
    have hl := all_listed E.order listed hr h.ls
    refine hend a w (fun i hi hs hb => h.vs i (hl i (by omega)) hs hb) (fun k hk => ?_) (fun j k hj hk hjk => h.ne j k hj hk hjk (hl _ (E.boxes j hj).1) (hl _ (E.boxes k hk).1)) (fun q hq => h.ks q fun j hj hs => ?_) h.sz h.df h.w
    · obtain ⟨p, p1, p2, p3⟩ := h.bs k hk (hl _ (E.boxes k hk).1)
      rw [if_pos (show yes listed (s k) from hl _ (E.boxes k hk).2.2.2.1)] at p3
      exact ⟨p, p1, p2, p3⟩
    · unfold outS at hq
      rw [List.all_eq_true] at hq
      have hjl : j < l.toArray.size := by
        rw [← h.ls]
        rcases Nat.lt_or_ge j listed.size with q | q
        · exact q
        · unfold yes at hj; simp [Array.getElem?_eq_none q] at hj
      have := hq j (List.mem_range.2 hjl)
      simp only [Bool.or_eq_true, decide_eq_true_eq] at this
      rcases this with q | q
      · rw [hs] at q; cases q
      · exact q
  · unfold left
    exact Nat.le_trans (List.countP_le_length) (by simp)
  · have hf : ∀ i, yes (Array.replicate l.toArray.size false) i → False := fun i hi => by
      unfold yes at hi
      simp only [Array.getD_eq_getD_getElem?, Array.getElem?_replicate] at hi
      split at hi <;> simp at hi
    exact ⟨by simp, rfl, rfl, fun i hi => (hf i hi).elim, fun k _ hi => (hf _ hi).elim, fun j k _ _ _ hi => (hf _ hi).elim, fun k _ => rfl, fun j _ hj => (hf j hj).elim, ⟨rfl, rfl, rfl, Nat.le_refl _, fun _ _ => rfl⟩⟩
end
end Go.Proofs.Ytplgaenfcaphnaa.MacP

/-
  Ways as interface values: which method is called of which; a heap in a box; what a call that changes it leaves alone.
-/
namespace Go.Proofs.Ytplgaenfcaphnaa.LanP
open Go.RowKit Go.Sort Go.Proofs.Ytplgaenfcaphnaa.SliceP Go.Proofs.Ytplgaenfcaphnaa.BoxP
open Go.Proofs.Ytplgaenfcaphnaa.IntP (RowI SlI OwnI)
open Go.Proofs.Ytplgaenfcaphnaa.BoolP (RowB SlB OwnB)
set_option linter.unusedVariables false
set_option maxRecDepth 100000
def Wy.v : Wy → Value
  | .al b r => .iface 89 (.agg #[.int .i64 b, .int .i64 r])
  | .on b r c => .iface 123 (.agg #[.int .i64 b, .int .i64 r, .int .i64 c])
abbrev wc (x : Wy) : List Value := [x.v]
theorem Wy.one (x : Wy) : x.v.oneCell' = true := by cases x <;> rfl
theorem wholeW (l : List Wy) : Whole 1 (l.map wc) := fun cs hc => by
  obtain ⟨x, _, rfl⟩ := List.mem_map.1 hc
  exact ⟨rfl, fun u hu => by simp at hu; subst hu; exact x.one⟩
theorem elW : ElemT Try.prog 86 92 1 := ElemT.mk' (z := .nilIface) (bytes := 16) Try.underlying86 (by kernel_rfl) (by decide) rfl (by decide)
theorem elWs : ElemT Try.prog 85 92 1 := ElemT.mk' (z := .nilIface) (bytes := 16) Try.underlying85 (by kernel_rfl) (by decide) rfl (by decide)
theorem m_from_al (v : Value) (w : World) : (method 268 89 v "footway/tree.from").run Try.prog w = .ok (109, v) w := by kernel_rfl
theorem m_worth_al (v : Value) (w : World) : (method 268 89 v "footway/tree.worth").run Try.prog w = .ok (110, v) w := by kernel_rfl
theorem m_from_on (v : Value) (w : World) : (method 268 123 v "footway/tree.from").run Try.prog w = .ok (111, v) w := by kernel_rfl
theorem m_worth_on (v : Value) (w : World) : (method 268 123 v "footway/tree.worth").run Try.prog w = .ok (112, v) w := by kernel_rfl
theorem m_push (v : Value) (w : World) : (method 268 88 v "Push").run Try.prog w = .ok (108, v) w := by kernel_rfl
theorem m_pop (v : Value) (w : World) : (method 268 88 v "Pop").run Try.prog w = .ok (107, v) w := by kernel_rfl
theorem wrapChk (t : TypeId) (a : Addr) (s u : String) : Builtin.ssaWrapNilChk_ #[t] t #[.pointer (some a), strVal s, strVal u] = pure (.pointer (some a)) := rfl
theorem method_ptr {P : Program} {t e : TypeId} {name : String} {f : FuncId} {a : Addr} {v : Value} {w : World} {n : Nat} {i : TypeInfo} {m : Method} (hi : P.info? t = some i) (hm : i.methods.find? (·.name == name) = some m) (h1 : m.path = #[]) (h2 : m.func = some (f, false))
    (hu : P.underlying t = some (.pointer e)) (hl : (loadVar e a).run P w = .ok v w) : (method (n + 1) t (.pointer (some a)) name).run P w = .ok (f, v) w := by
  unfold method
  simp [typeInfo, hi, hm, h1, h2, follow, receiverAt, run_underlying hu, Place.get, wrapChk, asAddr, hl]
theorem method_ptrB {P : Program} {t e : TypeId} {name : String} {f : FuncId} {a : Addr} {v : Value} {w : World} {n : Nat} (h : ((P.info? t).bind fun i => (i.methods.find? (·.name == name)).map fun m => (m.path.size, m.func)) = some (0, some (f, false)))
    (hu : P.underlying t = some (.pointer e)) (hl : (loadVar e a).run P w = .ok v w) : (method (n + 1) t (.pointer (some a)) name).run P w = .ok (f, v) w := by
  cases hi : P.info? t with
  | none => rw [hi] at h; cases h
  | some i =>
    rw [hi] at h
    simp only [Option.bind_some] at h
    obtain ⟨m, hm, h3⟩ := Option.map_eq_some_iff.1 h
    simp only [Prod.mk.injEq] at h3
    exact method_ptr hi hm (Array.size_eq_zero_iff.1 h3.1) h3.2 hu hl
theorem load_ways {b : Nat} {w : World} {v : Value} (h : w.cell? ⟨b, 0, none⟩ = some v) : (loadVar 86 ⟨b, 0, none⟩).run Try.prog w = .ok v w := by
  have e : (isAgg 86).run Try.prog w = .ok false w := by kernel_rfl
  simp [loadVar, e, h]
theorem m_len {b : Nat} {w : World} {v : Value} (h : w.cell? ⟨b, 0, none⟩ = some v) : (method 268 88 (.pointer (some ⟨b, 0, none⟩)) "Len").run Try.prog w = .ok (43, v) w := method_ptrB (by kernel_rfl) Try.underlying88 (load_ways h)
theorem m_less {b : Nat} {w : World} {v : Value} (h : w.cell? ⟨b, 0, none⟩ = some v) : (method 268 88 (.pointer (some ⟨b, 0, none⟩)) "Less").run Try.prog w = .ok (104, v) w := method_ptrB (by kernel_rfl) Try.underlying88 (load_ways h)
theorem m_swap {b : Nat} {w : World} {v : Value} (h : w.cell? ⟨b, 0, none⟩ = some v) : (method 268 88 (.pointer (some ⟨b, 0, none⟩)) "Swap").run Try.prog w = .ok (105, v) w := method_ptrB (by kernel_rfl) Try.underlying88 (load_ways h)
theorem run_typeAssert_has1 {P : Program} {w : World} {t xT asserted : TypeId} {v : Value} {want : Array (String × TypeId)} {i : TypeInfo} (hu : P.underlying asserted = some (.interface want)) (hi : P.info? t = some i) (hl : lacking want i.methods = []) :
    (Instr.typeAssert (.iface t v) xT asserted false).run P w = .ok (.iface t v) w := by
  simp [Instr.typeAssert, run_underlying hu, typeInfo, hi, missingMethod_none hl]
theorem run_typeAssert_has1B {P : Program} {w : World} {t xT asserted : TypeId} {v : Value} {want : Array (String × TypeId)} (hu : P.underlying asserted = some (.interface want)) (h : (P.info? t).map (fun i => (lacking want i.methods).isEmpty) = some true) :
    (Instr.typeAssert (.iface t v) xT asserted false).run P w = .ok (.iface t v) w := by
  obtain ⟨i, hi, hl⟩ := Option.map_eq_some_iff.1 h
  exact run_typeAssert_has1 hu hi (List.isEmpty_iff.1 hl)
theorem as_way (x : Wy) (xT : TypeId) (w : World) : (Instr.typeAssert x.v xT 92 false).run Try.prog w = .ok x.v w := by
  cases x
  · exact run_typeAssert_has1B Try.underlying92 (by kernel_rfl)
  · exact run_typeAssert_has1B Try.underlying92 (by kernel_rfl)
/-- What is left alone by a step that may write the blocks of S. -/
structure Stay (S : Nat → Prop) (w w' : World) : Prop where
  os : w'.os = w.os
  tape : w'.tape = w.tape
  output : w'.output = w.output
  size : w.heap.size ≤ w'.heap.size
  block : ∀ k, k < w.heap.size → ¬ S k → w'.heap[k]? = w.heap[k]?
section
variable {S : Nat → Prop} {w w' w2 : World} {n : Nat}
theorem Stay.refl (S : Nat → Prop) (w : World) : Stay S w w := ⟨rfl, rfl, rfl, Nat.le_refl _, fun _ _ _ => rfl⟩
theorem Stay.trans (h : Stay S w w') (k : Stay S w' w2) : Stay S w w2 := ⟨k.os.trans h.os, k.tape.trans h.tape, k.output.trans h.output, Nat.le_trans h.size k.size, fun i hi hs => (k.block i (Nat.lt_of_lt_of_le hi h.size) hs).trans (h.block i hi hs)⟩
theorem Stay.of (h : Below w.heap.size w w') : Stay S w w' := ⟨h.os, h.tape, h.output, h.size, fun k hk _ => h.block k hk⟩
theorem Stay.below (h : Stay S w w') (hS : ∀ b, S b → n ≤ b) (hn : n ≤ w.heap.size) : Below n w w' := ⟨h.os, h.tape, h.output, h.size, fun k hk => h.block k (by omega) (fun hs => by have := hS k hs; omega)⟩
theorem Stay.bx (h : Stay S w w') {b : Nat} {ty : TypeId} {vals : Array Value} (hb : Bx w b ty vals) (hs : ¬ S b) : Bx w' b ty vals := (h.block b hb.lt hs).trans hb
theorem Stay.cell (h : Stay S w w') {p : Addr} (hp : p.block < w.heap.size) (hs : ¬ S p.block) : w'.cell? p = w.cell? p := World.cell?_of_block (h.block _ hp hs)
theorem Stay.sl {sz : Nat} {A : Option Addr} {xs : List (List Value)} (h : Stay S w w') (hs : Sl w sz A xs) (ho : ∀ a, A = some a → ¬ S a.block) : Sl w' sz A xs := fun hn => by
  obtain ⟨b, o, e, hb, hx⟩ := hs hn
  have hS := ho _ e
  exact ⟨b, o, e, Nat.lt_of_lt_of_le hb h.size, fun k cs hk j v hj => (h.cell (p := ⟨b, o + k * sz + j, none⟩) hb hS).trans (hx k cs hk j v hj)⟩
theorem own_stay {B : Nat} {e : TypeId} {sz : Nat} {v : Value} {xs : List (List Value)} (h : Own w B e sz v xs) (k : Stay S w w') (hS : ∀ b, v.ownBlock = some b → ¬ S b) : Own w' B e sz v xs := by
  refine ⟨⟨h.row.1, ?_⟩, h.whole⟩
  rcases h.row.2 with h1 | ⟨g, c, cur, h1, h2, h3, rest⟩
  · exact .inl h1
  · exact .inr ⟨g, c, cur, h1, h2, (k.block g (Array.getElem?_eq_some_iff.1 h3).1 (hS g (by rw [h1]; rfl))).trans h3, rest⟩
end
/-- The blocks of a heap: its box, and its row. -/
def Hs2 (b : Nat) (A : Option Addr) (x : Nat) : Prop := x = b ∨ ∃ a, A = some a ∧ a.block = x
structure Hop (w w' : World) (b : Nat) (A A' : Option Addr) : Prop where
  st : Stay (Hs2 b A) w w'
  nw : ∀ a, A' = some a → (∃ a0, A = some a0 ∧ a0.block = a.block) ∨ w.heap.size ≤ a.block
theorem Hop.trans {w w1 w2 : World} {b : Nat} {A A1 A2 : Option Addr} (h : Hop w w1 b A A1) (k : Hop w1 w2 b A1 A2) : Hop w w2 b A A2 := by
  refine ⟨⟨k.st.os.trans h.st.os, k.st.tape.trans h.st.tape, k.st.output.trans h.st.output, Nat.le_trans h.st.size k.st.size, fun i hi hs => ?_⟩, fun a ha => ?_⟩
  · refine (k.st.block i (Nat.lt_of_lt_of_le hi h.st.size) (fun hx => ?_)).trans (h.st.block i hi hs)
    rcases hx with hx | ⟨a, ha, e⟩
    · exact hs (.inl hx)
    · rcases h.nw a ha with ⟨a0, h0, e0⟩ | h0
      · exact hs (.inr ⟨a0, h0, by rw [e0, e]⟩)
      · omega
  · rcases k.nw a ha with ⟨a0, h0, e0⟩ | h0
    · rcases h.nw a0 h0 with ⟨a1, h1, e1⟩ | h1
      · exact .inl ⟨a1, h1, by rw [e1, e0]⟩
      · right; omega
    · right; have := h.st.size; omega
theorem Hop.of {w w' : World} {b : Nat} {A : Option Addr} (h : Below w.heap.size w w') : Hop w w' b A A := ⟨Stay.of h, fun a ha => .inl ⟨a, ha, rfl⟩⟩
theorem Hop.off {w w' : World} {b : Nat} {A A' : Option Addr} (h : Hop w w' b A A') {x : Nat} (hx : x < w.heap.size) (hn : ¬ Hs2 b A x) : ¬ Hs2 b A' x := fun e => by
  rcases e with e | ⟨a, ha, e⟩
  · exact hn (.inl e)
  · rcases h.nw a ha with ⟨a0, h0, e0⟩ | h0
    · exact hn (.inr ⟨a0, h0, by rw [e0, e]⟩)
    · omega
/-- A heap in a box. -/
structure Hp (w : World) (b : Nat) (h : List Wy) (A : Option Addr) (c : Nat) : Prop where
  bx : Bx w b 86 #[.slice A h.length c]
  own : Own w (b + 1) 92 1 (.slice A h.length c) (h.map wc)
theorem Hp.below {w w' : World} {b : Nat} {h : List Wy} {A : Option Addr} {c : Nat} (H : Hp w b h A c) (hb : Below w.heap.size w w') : Hp w' b h A c := ⟨H.bx.below hb, H.own.below hb⟩
theorem Hp.row {w : World} {b : Nat} {h : List Wy} {A : Option Addr} {c : Nat} (H : Hp w b h A c) : Row wc 1 w A h.length c h := Row.own H.own (by decide)
theorem Hp.ge {w : World} {b : Nat} {h : List Wy} {A : Option Addr} {c : Nat} (H : Hp w b h A c) : ∀ x, Hs2 b A x → b ≤ x := fun x hx => by
  rcases hx with rfl | ⟨a, ha, rfl⟩
  · exact Nat.le_refl _
  · have := (own_far H.own a ha).1; omega
theorem Hop.below {w w' : World} {b n : Nat} {h : List Wy} {A A' : Option Addr} {c : Nat} (k : Hop w w' b A A') (H : Hp w b h A c) (hn : n ≤ b) : Below n w w' := k.st.below (fun x hx => Nat.le_trans hn (H.ge x hx)) (by have := H.bx.lt; omega)
theorem Row.wat {w : World} {A : Option Addr} {n c : Nat} {l : List Wy} (h : Row wc 1 w A n c l) {k : Nat} {x : Wy} (hk : l[k]? = some x) : ∃ b o, A = some ⟨b, o, none⟩ ∧ b < w.heap.size ∧ w.cell? ⟨b, o + k, none⟩ = some x.v := by
  obtain ⟨b, o, rfl, hb, hx⟩ := Sl.at_ h.sl (k := k) (cs := wc x) (by rw [List.getElem?_map, hk]; rfl)
  refine ⟨b, o, rfl, hb, ?_⟩
  have := hx 0 _ rfl
  rwa [Nat.mul_one, Nat.add_zero] at this
/-- The first few of an owned row. -/
theorem own_cut {w : World} {B n c sz : Nat} {e : TypeId} {A : Option Addr} {xs : List (List Value)} (h : Own w B e sz (.slice A n c) xs) {m : Nat} (hm : m ≤ xs.length) : Own w B e sz (.slice A m c) (xs.take m) := by
  have hl : (xs.take m).flatten.length = m * sz := by
    rw [flatten_length (xs.take m) sz (fun cs hc => (h.whole cs (List.mem_of_mem_take hc)).1), List.length_take, Nat.min_eq_left hm]
  have hle : (xs.take m).length = m := by rw [List.length_take, Nat.min_eq_left hm]
  refine ⟨⟨by rw [hle]; exact hl, ?_⟩, h.whole.take m⟩
  rcases h.row.2 with ⟨h1, h2⟩ | ⟨g, cap, cur, h1, hb, hg, hn, hmx, hsz, htk⟩
  · injection h1 with e1 e2 e3
    subst e1 e3
    left
    rw [hle]
    have : m = 0 := by omega
    subst this
    exact ⟨rfl, rfl⟩
  · injection h1 with e1 e2 e3
    subst e1 e2 e3
    rw [hle]
    refine .inr ⟨g, c, cur, rfl, hb, hg, by omega, hmx, hsz, ?_⟩
    have e1 : xs.flatten = (xs.take m).flatten ++ (xs.drop m).flatten := by rw [← List.flatten_append, List.take_append_drop]
    have : (cur.toList.take (xs.length * sz)).take (m * sz) = (xs.take m).flatten := by
      rw [htk, e1, ← hl, List.take_left]
    rw [← this, List.take_take, Nat.min_eq_left (Nat.mul_le_mul_right _ hm)]
end Go.Proofs.Ytplgaenfcaphnaa.LanP

/-
  Contracts of the ways' methods (from, worth), slices.Compare at two pairs.
-/
namespace Go.Proofs.Ytplgaenfcaphnaa.LanP
open Go.RowKit Go.Sort Go.Proofs.Ytplgaenfcaphnaa.SliceP Go.Proofs.Ytplgaenfcaphnaa.BoxP
open Go.Proofs.Ytplgaenfcaphnaa.IntP (RowI SlI OwnI)
open Go.Proofs.Ytplgaenfcaphnaa.BoolP (RowB SlB OwnB)
open Go.Proofs.Ytplgaenfcaphnaa.VecP (cmpI compare_int)
set_option linter.unusedVariables false
set_option maxRecDepth 100000
theorem o_from_al (b r : Int) (w : World) : Calls Try.prog 109 #[.agg #[.int .i64 b, .int .i64 r]] w fun e w' => e = .returned (.int .i64 b) ∧ Below w.heap.size w w' := by
  go_enter Try.func109, Try.ntmps109
  go_wp2_with fail
  go_ret
  exact ⟨rfl, (Below.refl _ _).alloc (Nat.le_refl _) _⟩
theorem o_from_on (b r c : Int) (w : World) : Calls Try.prog 111 #[.agg #[.int .i64 b, .int .i64 r, .int .i64 c]] w fun e w' => e = .returned (.int .i64 b) ∧ Below w.heap.size w w' := by
  go_enter Try.func111, Try.ntmps111
  go_wp2_with fail
  go_ret
  exact ⟨rfl, (Below.refl _ _).alloc (Nat.le_refl _) _⟩
theorem o_worth_al (b r : Int) (w : World) : Calls Try.prog 110 #[.agg #[.int .i64 b, .int .i64 r]] w fun e w' => e = .returned (.agg #[.int .i64 r, .int .i64 0]) ∧ w' = (w.alloc (.cells #[.int .i64 b, .int .i64 r] 89)).alloc (.cells #[.int .i64 r, .int .i64 0] 33) := by
  go_enter Try.func110, Try.ntmps110
  go_wp2_with fail
  refine bodyPost_ret (v := .agg #[.int .i64 r, .int .i64 0]) (by simp [results, Try.results110, go_sem]) rfl ?_
  exact ⟨rfl, rfl⟩
theorem o_worth_on (b r c : Int) (w : World) : Calls Try.prog 112 #[.agg #[.int .i64 b, .int .i64 r, .int .i64 c]] w fun e w' => e = .returned (.agg #[.int .i64 r, .int .i64 c]) ∧ w' = (w.alloc (.cells #[.int .i64 b, .int .i64 r, .int .i64 c] 123)).alloc (.cells #[.int .i64 r, .int .i64 c] 33) := by
  go_enter Try.func112, Try.ntmps112
  go_wp2_with fail
  refine bodyPost_ret (v := .agg #[.int .i64 r, .int .i64 c]) (by simp [results, Try.results112, go_sem]) rfl ?_
  exact ⟨rfl, rfl⟩
set_option maxHeartbeats 4000000 in
theorem o_cmp2 {p q : Nat} {x y : Bst} {w : World} (hp : p < w.heap.size) (hq : q < w.heap.size) (p0 : w.cell? ⟨p, 0, none⟩ = some (.int .i64 x.1)) (p1 : w.cell? ⟨p, 1, none⟩ = some (.int .i64 x.2)) (q0 : w.cell? ⟨q, 0, none⟩ = some (.int .i64 y.1)) (q1 : w.cell? ⟨q, 1, none⟩ = some (.int .i64 y.2)) :
    Calls Try.prog 106 #[.slice (some ⟨p, 0, none⟩) 2 2, .slice (some ⟨q, 0, none⟩) 2 2] w fun e w' => ∃ r, e = .returned (.int .i64 r) ∧ (decide (r < 0)) = btr x y ∧ w = w' := by
  obtain ⟨x0, x1⟩ := x
  obtain ⟨y0, y1⟩ := y
  simp only at p0 p1 q0 q1
  go_enter Try.func106, Try.ntmps106
  go_wp2_with fail
  go_loopw [11] (fun i wr => ∃ k : Nat, k ≤ 2 ∧ i = .int .i64 k ∧ (0 < k → x0 = y0) ∧ (1 < k → x1 = y1) ∧ w = wr) (fun i _ => 2 - (intOf i).toNat)
  case atStart => exact ⟨0, by omega, rfl, by omega, by omega, rfl⟩
  case round =>
    obtain ⟨k, hk, rfl, e0, e1, rfl⟩ := hrel
    match k, hk with
    | 0, _ =>
      clear e0 e1
      by_cases h1 : x0 < y0
      · have hc : cmpI x0 y0 = -1 := by unfold cmpI; rw [if_pos h1]
        have hC := Lib.hid (fun W => compare_int x0 y0 W)
        rw [hc] at hC
        have hB : btr (x0, x1) (y0, y1) = true := btr_iff.2 (.inl h1)
        replace hB := Lib.hid hB
        clear hc
        go_wp2_with (go_at_call 81; refine (hC.out _).mono ?_; rintro e w' ⟨rfl, rfl⟩)
        go_ret
        exact ⟨-1, rfl, by rw [hB.out]; rfl, rfl⟩
      · by_cases h2 : y0 < x0
        · have hc : cmpI x0 y0 = 1 := by unfold cmpI; rw [if_neg h1, if_pos h2]
          have hC := Lib.hid (fun W => compare_int x0 y0 W)
          rw [hc] at hC
          have hB : btr (x0, x1) (y0, y1) = false := by
            cases hb : btr (x0, x1) (y0, y1) with
            | false => rfl
            | true => have := btr_iff.1 hb; simp only at this; omega
          replace hB := Lib.hid hB
          clear hc
          go_wp2_with (go_at_call 81; refine (hC.out _).mono ?_; rintro e w' ⟨rfl, rfl⟩)
          go_ret
          exact ⟨1, rfl, by rw [hB.out]; rfl, rfl⟩
        · have h3 : x0 = y0 := by omega
          have hc : cmpI x0 y0 = 0 := by unfold cmpI; rw [if_neg h1, if_neg h2]
          have hC := Lib.hid (fun W => compare_int x0 y0 W)
          rw [hc] at hC
          replace h3 := Lib.hid h3
          clear hc
          go_wp2_with (go_at_call 81; refine (hC.out _).mono ?_; rintro e w' ⟨rfl, rfl⟩)
          go_roundw
          case rel => exact ⟨1, by omega, by go_num, fun _ => h3.out, by omega, by simp⟩
          case measure => simp [intOf]
    | 1, _ =>
      have h0 := e0 (by omega)
      subst h0
      clear e0 e1
      by_cases h1 : x1 < y1
      · have hc : cmpI x1 y1 = -1 := by unfold cmpI; rw [if_pos h1]
        have hC := Lib.hid (fun W => compare_int x1 y1 W)
        rw [hc] at hC
        have hB : btr (x0, x1) (x0, y1) = true := btr_iff.2 (.inr ⟨rfl, h1⟩)
        replace hB := Lib.hid hB
        clear hc
        go_wp2_with (go_at_call 81; refine (hC.out _).mono ?_; rintro e w' ⟨rfl, rfl⟩)
        go_ret
        exact ⟨-1, rfl, by rw [hB.out]; rfl, rfl⟩
      · by_cases h2 : y1 < x1
        · have hc : cmpI x1 y1 = 1 := by unfold cmpI; rw [if_neg h1, if_pos h2]
          have hC := Lib.hid (fun W => compare_int x1 y1 W)
          rw [hc] at hC
          have hB : btr (x0, x1) (x0, y1) = false := by
            cases hb : btr (x0, x1) (x0, y1) with
            | false => rfl
            | true => have := btr_iff.1 hb; simp only at this; omega
          replace hB := Lib.hid hB
          clear hc
          go_wp2_with (go_at_call 81; refine (hC.out _).mono ?_; rintro e w' ⟨rfl, rfl⟩)
          go_ret
          exact ⟨1, rfl, by rw [hB.out]; rfl, rfl⟩
        · have h3 : x1 = y1 := by omega
          have hc : cmpI x1 y1 = 0 := by unfold cmpI; rw [if_neg h1, if_neg h2]
          have hC := Lib.hid (fun W => compare_int x1 y1 W)
          rw [hc] at hC
          replace h3 := Lib.hid h3
          clear hc
          go_wp2_with (go_at_call 81; refine (hC.out _).mono ?_; rintro e w' ⟨rfl, rfl⟩)
          go_roundw
          case rel => exact ⟨2, by omega, by go_num, by simp, fun _ => h3.out, by simp⟩
          case measure => simp [intOf]
    | 2, _ =>
      have h0 := e0 (by omega)
      have h1 := e1 (by omega)
      subst h0 h1
      clear e0 e1
      have hB : btr (x0, x1) (x0, x1) = false := by
        cases hb : btr (x0, x1) (x0, x1) with
        | false => rfl
        | true => have := btr_iff.1 hb; simp only at this; omega
      replace hB := Lib.hid hB
      go_wp2_with fail
      go_ret
      exact ⟨0, rfl, by rw [hB.out]; rfl, rfl⟩
end Go.Proofs.Ytplgaenfcaphnaa.LanP

/-
  Contracts of ways' Less, Swap, Len, Push, Pop.
-/
namespace Go.Proofs.Ytplgaenfcaphnaa.LanP
open Go.RowKit Go.Sort Go.Proofs.Ytplgaenfcaphnaa.SliceP Go.Proofs.Ytplgaenfcaphnaa.BoxP
open Go.Proofs.Ytplgaenfcaphnaa.IntP (RowI SlI OwnI)
open Go.Proofs.Ytplgaenfcaphnaa.BoolP (RowB SlB OwnB)
open Go.Proofs.Ytplgaenfcaphnaa.MacP (arr_out)
set_option linter.unusedVariables false
set_option maxRecDepth 100000
theorem Wy.iface (x : Wy) : ∃ T V, x.v = .iface T V := by cases x <;> exact ⟨_, _, rfl⟩
theorem o_from {x : Wy} {T : TypeId} {V : Value} (hx : x.v = .iface T V) : ∃ f, (∀ w', (method 268 T V "footway/tree.from").run Try.prog w' = .ok (f, V) w') ∧ (∀ l w', (callFunc f l).run Try.prog w' = .ok (.enter f l) w') ∧ ∀ w, Calls Try.prog f #[V] w fun e w' => e = .returned (.int .i64 x.fr) ∧ Below w.heap.size w w' := by
  cases x with
  | al b r => injection hx with e1 e2; subst e1 e2; exact ⟨_, m_from_al _, fun l w => (by kernel_rfl), fun w => o_from_al _ _ w⟩
  | on b r c => injection hx with e1 e2; subst e1 e2; exact ⟨_, m_from_on _, fun l w => (by kernel_rfl), fun w => o_from_on _ _ _ w⟩
theorem o_worth {x : Wy} {T : TypeId} {V : Value} (hx : x.v = .iface T V) : ∃ f o1 o2, (∀ w', (method 268 T V "footway/tree.worth").run Try.prog w' = .ok (f, V) w') ∧ (∀ l w', (callFunc f l).run Try.prog w' = .ok (.enter f l) w') ∧ ∀ w, Calls Try.prog f #[V] w fun e w' => e = .returned (.agg #[.int .i64 x.key.1, .int .i64 x.key.2]) ∧ w' = (w.alloc o1).alloc o2 := by
  cases x with
  | al b r => injection hx with e1 e2; subst e1 e2; exact ⟨_, _, _, m_worth_al _, fun l w => (by kernel_rfl), fun w => o_worth_al _ _ w⟩
  | on b r c => injection hx with e1 e2; subst e1 e2; exact ⟨_, _, _, m_worth_on _, fun l w => (by kernel_rfl), fun w => o_worth_on _ _ _ w⟩
theorem o_len (A : Option Addr) (n c : Nat) (w : World) : Calls Try.prog 43 #[.slice A n c] w fun e w' => e = .returned (.int .i64 n) ∧ w = w' := by
  go_enter Try.func43, Try.ntmps43
  go_wp2_with fail
  go_ret
  exact ⟨rfl, rfl⟩
theorem grown_none' {w w' : World} {r : Option Nat} (hb : Below w.heap.size w w') : w.grownBy w' r := ⟨hb.os, hb.tape, hb.output, hb.size, fun k hk _ => hb.block k hk⟩
set_option maxHeartbeats 4000000 in
theorem o_swap {w : World} {B : Nat} {h : List Wy} {A : Option Addr} {c : Nat} (H : Own w B 92 1 (.slice A h.length c) (h.map wc)) {i j : Nat} (hi : i < h.length) (hj : j < h.length) :
    Calls Try.prog 105 #[.slice A h.length c, .int .i64 i, .int .i64 j] w fun e w' => e = .returned (.tuple #[]) ∧ Own w' B 92 1 (.slice A h.length c) ((swp h i j).map wc) ∧ ∃ g, A = some ⟨g, 0, none⟩ ∧ w.grownBy w' (some g) := by
  obtain ⟨g, rfl, hg1, hg2⟩ := own_ptr H (by intro e; rw [List.map_eq_nil_iff] at e; rw [e] at hi; simp at hi)
  have hil : (i : Int) < (h.length : Int) := by omega
  have hjl : (j : Int) < (h.length : Int) := by omega
  have ci := own_cell H (by decide) (j := i) (cs := wc (at_ h i)) (by rw [List.getElem?_map, at_get hi]; rfl) (v := (at_ h i).v) (i := 0) rfl
  have cj := own_cell H (by decide) (j := j) (cs := wc (at_ h j)) (by rw [List.getElem?_map, at_get hj]; rfl) (v := (at_ h j).v) (i := 0) rfl
  rw [Nat.mul_one, Nat.add_zero] at ci cj
  have fi := (own_free H i).1
  have fj := (own_free H j).1
  have K := Lib.hid H
  clear H
  obtain ⟨T, V, hx⟩ := (at_ h i).iface
  obtain ⟨T2, V2, hy⟩ := (at_ h j).iface
  rw [hx] at ci
  rw [hy] at cj
  replace hx := Lib.hid hx
  replace hy := Lib.hid hy
  have hO := Lib.hid (show ∀ u v : Value, u.oneCell' = true → v.oneCell' = true → Own ((w.setCell ⟨g, i, none⟩ u).setCell ⟨g, j, none⟩ v) B 92 1 (.slice (some ⟨g, 0, none⟩) h.length c) (((h.map wc).set i [u]).set j [v]) from fun u v hu hv => own_put1 (own_put1 K.out (by rw [List.length_map]; exact hi) hu) (by rw [List.length_set, List.length_map]; exact hj) hv)
  have hS := Lib.hid (show (swp h i j).map wc = ((h.map wc).set i [(at_ h j).v]).set j [(at_ h i).v] by unfold swp; rw [List.map_set, List.map_set])
  rw [hx.out, hy.out] at hS
  have hG := Lib.hid (show ∀ u v : Value, w.grownBy ((w.setCell ⟨g, i, none⟩ u).setCell ⟨g, j, none⟩ v) (some g) from fun u v => (setCell_grown _ _ _ _).trans (setCell_grown _ _ _ _))
  by_cases hij : i = j
  · subst hij
    have hq := hx.out.symm.trans hy.out
    injection hq with q1 q2
    subst q1 q2
    go_enter Try.func105, Try.ntmps105
    go_region
    refine bodyPost_end (v := .tuple #[]) (by simp [results, Try.results105, go_sem]) rfl ⟨rfl, ?_, g, rfl, ?_⟩
    · rw [hS.out]; exact (hO.out (.iface T V) (.iface T V) rfl rfl).below (Below.refl _ _).drew
    · exact (hG.out (.iface T V) (.iface T V)).trans (grown_none' (Below.refl _ _).drew)
  · have hji : ¬ j = i := fun e => hij e.symm
    go_enter Try.func105, Try.ntmps105
    go_region
    refine bodyPost_end (v := .tuple #[]) (by simp [results, Try.results105, go_sem]) rfl ⟨rfl, ?_, g, rfl, ?_⟩
    · rw [hS.out]; exact (hO.out (.iface T2 V2) (.iface T V) rfl rfl).below (Below.refl _ _).drew
    · exact (hG.out (.iface T2 V2) (.iface T V)).trans (grown_none' (Below.refl _ _).drew)
set_option maxHeartbeats 8000000 in
theorem o_less {w : World} {h : List Wy} {A : Option Addr} {n c : Nat} (H : Row wc 1 w A n c h) {i j : Nat} (hi : i < h.length) (hj : j < h.length) {b : Bool} (hb : btr (ky h i) (ky h j) = b) :
    Calls Try.prog 104 #[.slice A n c, .int .i64 i, .int .i64 j] w fun e w' => e = .returned (.bool b) ∧ Below w.heap.size w w' := by
  obtain rfl := H.len
  have hil : (i : Int) < (h.length : Int) := by omega
  have hjl : (j : Int) < (h.length : Int) := by omega
  obtain ⟨g, o, hA, hg, ci⟩ := Row.wat H (at_get hi)
  obtain ⟨g', o', hA', hg', cj⟩ := Row.wat H (at_get hj)
  rw [hA] at hA'
  obtain ⟨rfl, rfl⟩ : g = g' ∧ o = o' := by simpa using hA'
  subst hA
  clear hA' hg' H
  unfold ky at hb
  obtain ⟨x, hx⟩ : ∃ x, at_ h i = x := ⟨_, rfl⟩
  obtain ⟨y, hy⟩ : ∃ y, at_ h j = y := ⟨_, rfl⟩
  rw [hx] at ci hb
  rw [hy] at cj hb
  replace hx := Lib.hid hx
  replace hy := Lib.hid hy
  obtain ⟨T, V, hxv⟩ := x.iface
  obtain ⟨T2, V2, hyv⟩ := y.iface
  rw [hxv] at ci
  rw [hyv] at cj
  obtain ⟨fx, ox1, ox2, hmx, hcx, hWx⟩ := o_worth hxv
  obtain ⟨fy, oy1, oy2, hmy, hcy, hWy⟩ := o_worth hyv
  clear hxv hyv
  replace hWx := Lib.hid hWx
  replace hWy := Lib.hid hWy
  go_enter Try.func104, Try.ntmps104
  go_upto_region 1 with fail
  replace hg := Lib.hid hg
  refine Go.Proofs.Ytplgaenfcaphnaa.MacP.wp_region_box (by kernel_rfl) (fun ix => match ix with | 0 => 9 | 1 => 10 | 2 => 11 | 3 => 12 | 4 => 13 | 5 => 14 | 6 => 15 | 7 => 16 | 8 => 17 | 9 => 18 | 10 => 7 | 11 => 8 | _ => 0) (fun ix => match ix with | 10 => some 0 | 11 => some 1 | _ => none) (fun ix => match ix with | 12 => some 0 | 13 => some 1 | _ => none) (fun k => match k with | 0 => 10 | _ => 11) (fun k => match k with | 0 => 12 | _ => 13) 2 (by kernel_rfl) (fun k => match k with | 0 => 33 | _ => 33) (fun k => match k with | 0 => #[.int .i64 0, .int .i64 0] | _ => #[.int .i64 0, .int .i64 0]) (fun k => match k with | 0 => #[.int .i64 x.key.1, .int .i64 x.key.2] | _ => #[.int .i64 y.key.1, .int .i64 y.key.2]) (fun ix v => match ix with | 0 => v = .slice (some ⟨g, o, none⟩) h.length c | 1 => v = .int .i64 i | 2 => v = .pointer (some ⟨g, o + i, none⟩) | 3 => v = .iface T V | 4 => v = .agg #[.int .i64 x.key.1, .int .i64 x.key.2] | 5 => v = .slice (some ⟨g, o, none⟩) h.length c | 6 => v = .int .i64 j | 7 => v = .pointer (some ⟨g, o + j, none⟩) | 8 => v = .iface T2 V2 | 9 => v = .agg #[.int .i64 y.key.1, .int .i64 y.key.2] | _ => True) ?_ ?_
  · refine ⟨?_, ?_, ?_, ?_, ?_, ?_, ?_, ?_, ?_, ?_, ?_, ?_, ?_, ?_, trivial⟩
    · as_aux_lemma =>
        intro a W2 K hb hdep hk hK
        replace hK : ∀ v w', v = .slice (some ⟨g, o, none⟩) h.length c → Below W2.heap.size W2 w' → K (a.put (some 9) v) w' := hK
        have d0 : a.tmps.getD 0 undef = .slice (some ⟨g, o, none⟩) h.length c := hk 0 (by kernel_rfl)
        have q0 : a.tmps[0]?.getD undef = .slice (some ⟨g, o, none⟩) h.length c := by simpa [Array.getD_eq_getD_getElem?] using d0
        clear d0
        clear hb hdep hk
        go_simp
        exact hK _ _ rfl (Below.refl _ _)
    · as_aux_lemma =>
        intro a W2 K hb hdep hk hK
        replace hK : ∀ v w', v = .int .i64 i → Below W2.heap.size W2 w' → K (a.put (some 10) v) w' := hK
        have d1 : a.tmps.getD 1 undef = .int .i64 i := hk 1 (by kernel_rfl)
        have q1 : a.tmps[1]?.getD undef = .int .i64 i := by simpa [Array.getD_eq_getD_getElem?] using d1
        clear d1
        clear hb hdep hk
        go_simp
        exact hK _ _ rfl (Below.refl _ _)
    · as_aux_lemma =>
        intro a W2 K hb hdep hk hK
        replace hK : ∀ v w', v = .pointer (some ⟨g, o + i, none⟩) → Below W2.heap.size W2 w' → K (a.put (some 11) v) w' := hK
        have d9 : a.tmps.getD 9 undef = .slice (some ⟨g, o, none⟩) h.length c := hdep ⟨0, .data⟩ (by simp) rfl rfl rfl
        have d10 : a.tmps.getD 10 undef = .int .i64 i := hdep ⟨1, .data⟩ (by simp) rfl rfl rfl
        have q9 : a.tmps[9]?.getD undef = .slice (some ⟨g, o, none⟩) h.length c := by simpa [Array.getD_eq_getD_getElem?] using d9
        clear d9
        have q10 : a.tmps[10]?.getD undef = .int .i64 i := by simpa [Array.getD_eq_getD_getElem?] using d10
        clear d10
        clear hb hdep hk
        go_simp
        exact hK _ _ rfl (Below.refl _ _)
    · as_aux_lemma =>
        intro a W2 K hb hdep hk hK
        replace hK : ∀ v w', v = .iface T V → Below W2.heap.size W2 w' → K (a.put (some 12) v) w' := hK
        have d11 : a.tmps.getD 11 undef = .pointer (some ⟨g, o + i, none⟩) := hdep ⟨2, .data⟩ (by simp) rfl rfl rfl
        have q11 : a.tmps[11]?.getD undef = .pointer (some ⟨g, o + i, none⟩) := by simpa [Array.getD_eq_getD_getElem?] using d11
        clear d11
        have hg2 := Nat.lt_of_lt_of_le hg.out hb.size
        have ci2 := (hb.cell (p := ⟨g, _, none⟩) hg.out).trans ci
        clear hb hdep hk
        go_simp
        exact hK _ _ rfl (Below.refl _ _)
    · as_aux_lemma =>
        intro a W2 K hb hdep hk hK
        replace hK : ∀ v w', v = .agg #[.int .i64 x.key.1, .int .i64 x.key.2] → Below W2.heap.size W2 w' → K (a.put (some 13) v) w' := hK
        have d12 : a.tmps.getD 12 undef = .iface T V := hdep ⟨3, .data⟩ (by simp) rfl rfl rfl
        have q12 : a.tmps[12]?.getD undef = .iface T V := by simpa [Array.getD_eq_getD_getElem?] using d12
        clear d12
        clear hb hdep hk
        go_simp
        refine (hWx.out _).mono ?_
        rintro e w9 ⟨rfl, rfl⟩
        exact hK _ _ rfl (((Below.refl _ _).alloc (Nat.le_refl _) _).alloc (by simp) _)
    · as_aux_lemma =>
        intro a W2 K hb hdep hk hK
        replace hK : ∀ v w', v = .slice (some ⟨g, o, none⟩) h.length c → Below W2.heap.size W2 w' → K (a.put (some 14) v) w' := hK
        have d0 : a.tmps.getD 0 undef = .slice (some ⟨g, o, none⟩) h.length c := hk 0 (by kernel_rfl)
        have q0 : a.tmps[0]?.getD undef = .slice (some ⟨g, o, none⟩) h.length c := by simpa [Array.getD_eq_getD_getElem?] using d0
        clear d0
        clear hb hdep hk
        go_simp
        exact hK _ _ rfl (Below.refl _ _)
    · as_aux_lemma =>
        intro a W2 K hb hdep hk hK
        replace hK : ∀ v w', v = .int .i64 j → Below W2.heap.size W2 w' → K (a.put (some 15) v) w' := hK
        have d2 : a.tmps.getD 2 undef = .int .i64 j := hk 2 (by kernel_rfl)
        have q2 : a.tmps[2]?.getD undef = .int .i64 j := by simpa [Array.getD_eq_getD_getElem?] using d2
        clear d2
        clear hb hdep hk
        go_simp
        exact hK _ _ rfl (Below.refl _ _)
    · as_aux_lemma =>
        intro a W2 K hb hdep hk hK
        replace hK : ∀ v w', v = .pointer (some ⟨g, o + j, none⟩) → Below W2.heap.size W2 w' → K (a.put (some 16) v) w' := hK
        have d14 : a.tmps.getD 14 undef = .slice (some ⟨g, o, none⟩) h.length c := hdep ⟨5, .data⟩ (by simp) rfl rfl rfl
        have d15 : a.tmps.getD 15 undef = .int .i64 j := hdep ⟨6, .data⟩ (by simp) rfl rfl rfl
        have q14 : a.tmps[14]?.getD undef = .slice (some ⟨g, o, none⟩) h.length c := by simpa [Array.getD_eq_getD_getElem?] using d14
        clear d14
        have q15 : a.tmps[15]?.getD undef = .int .i64 j := by simpa [Array.getD_eq_getD_getElem?] using d15
        clear d15
        clear hb hdep hk
        go_simp
        exact hK _ _ rfl (Below.refl _ _)
    · as_aux_lemma =>
        intro a W2 K hb hdep hk hK
        replace hK : ∀ v w', v = .iface T2 V2 → Below W2.heap.size W2 w' → K (a.put (some 17) v) w' := hK
        have d16 : a.tmps.getD 16 undef = .pointer (some ⟨g, o + j, none⟩) := hdep ⟨7, .data⟩ (by simp) rfl rfl rfl
        have q16 : a.tmps[16]?.getD undef = .pointer (some ⟨g, o + j, none⟩) := by simpa [Array.getD_eq_getD_getElem?] using d16
        clear d16
        have hg2 := Nat.lt_of_lt_of_le hg.out hb.size
        have cj2 := (hb.cell (p := ⟨g, _, none⟩) hg.out).trans cj
        clear hb hdep hk
        go_simp
        exact hK _ _ rfl (Below.refl _ _)
    · as_aux_lemma =>
        intro a W2 K hb hdep hk hK
        replace hK : ∀ v w', v = .agg #[.int .i64 y.key.1, .int .i64 y.key.2] → Below W2.heap.size W2 w' → K (a.put (some 18) v) w' := hK
        have d17 : a.tmps.getD 17 undef = .iface T2 V2 := hdep ⟨8, .data⟩ (by simp) rfl rfl rfl
        have q17 : a.tmps[17]?.getD undef = .iface T2 V2 := by simpa [Array.getD_eq_getD_getElem?] using d17
        clear d17
        clear hb hdep hk
        go_simp
        refine (hWy.out _).mono ?_
        rintro e w9 ⟨rfl, rfl⟩
        exact hK _ _ rfl (((Below.refl _ _).alloc (Nat.le_refl _) _).alloc (by simp) _)
    · as_aux_lemma =>
        intro a W2 K hb hdep hk hK
        replace hK : ∀ w', w' = W2.alloc (.cells #[.int .i64 0, .int .i64 0] 33) → K (a.put (some 7) (.pointer (some ⟨W2.heap.size, 0, none⟩))) w' := hK
        clear hb hdep hk
        go_simp
        exact hK _ rfl
    · as_aux_lemma =>
        intro a W2 K hb hdep hk hK
        replace hK : ∀ w', w' = W2.alloc (.cells #[.int .i64 0, .int .i64 0] 33) → K (a.put (some 8) (.pointer (some ⟨W2.heap.size, 0, none⟩))) w' := hK
        clear hb hdep hk
        go_simp
        exact hK _ rfl
    · as_aux_lemma =>
        intro a W2 K hb hdep hk p hp hX hK
        replace hp : a.tmps.getD 7 undef = .pointer (some ⟨p, 0, none⟩) := hp
        replace hX : Go.Proofs.Ytplgaenfcaphnaa.BoxP.Bx W2 p 33 #[.int .i64 0, .int .i64 0] := hX
        replace hK : ∀ w', Go.Proofs.Ytplgaenfcaphnaa.BoxP.Bx w' p 33 #[.int .i64 x.key.1, .int .i64 x.key.2] → W2.grownBy w' (some p) → K a w' := hK
        have d13 : a.tmps.getD 13 undef = .agg #[.int .i64 x.key.1, .int .i64 x.key.2] := hdep ⟨4, .data⟩ (by simp) rfl rfl rfl
        have q13 : a.tmps[13]?.getD undef = .agg #[.int .i64 x.key.1, .int .i64 x.key.2] := by simpa [Array.getD_eq_getD_getElem?] using d13
        clear d13
        have q7 : a.tmps[7]?.getD undef = .pointer (some ⟨p, 0, none⟩) := by simpa [Array.getD_eq_getD_getElem?] using hp
        clear hp
        have c0 := hX.c (i := 0) rfl
        have f0 := hX.f 0
        have c1 := hX.c (i := 1) rfl
        have f1 := hX.f 1
        have hlt := hX.lt
        replace hX := Lib.hid hX
        clear hb hdep hk
        go_simp
        exact hK _ ((hX.out.set 0 _).set 1 _) ((setCell_grown _ _ _ _).trans (setCell_grown _ _ _ _))
    · as_aux_lemma =>
        intro a W2 K hb hdep hk p hp hX hK
        replace hp : a.tmps.getD 8 undef = .pointer (some ⟨p, 0, none⟩) := hp
        replace hX : Go.Proofs.Ytplgaenfcaphnaa.BoxP.Bx W2 p 33 #[.int .i64 0, .int .i64 0] := hX
        replace hK : ∀ w', Go.Proofs.Ytplgaenfcaphnaa.BoxP.Bx w' p 33 #[.int .i64 y.key.1, .int .i64 y.key.2] → W2.grownBy w' (some p) → K a w' := hK
        have d18 : a.tmps.getD 18 undef = .agg #[.int .i64 y.key.1, .int .i64 y.key.2] := hdep ⟨9, .data⟩ (by simp) rfl rfl rfl
        have q18 : a.tmps[18]?.getD undef = .agg #[.int .i64 y.key.1, .int .i64 y.key.2] := by simpa [Array.getD_eq_getD_getElem?] using d18
        clear d18
        have q8 : a.tmps[8]?.getD undef = .pointer (some ⟨p, 0, none⟩) := by simpa [Array.getD_eq_getD_getElem?] using hp
        clear hp
        have c0 := hX.c (i := 0) rfl
        have f0 := hX.f 0
        have c1 := hX.c (i := 1) rfl
        have f1 := hX.f 1
        have hlt := hX.lt
        replace hX := Lib.hid hX
        clear hb hdep hk
        go_simp
        exact hK _ ((hX.out.set 0 _).set 1 _) ((setCell_grown _ _ _ _).trans (setCell_grown _ _ _ _))
  intro a wbx hsp hbxs hne hk hn hdf hbx
  obtain ⟨p, ep, gep, Xp⟩ := hbxs 0 (by decide)
  obtain ⟨r, er, ger, Xr⟩ := hbxs 1 (by decide)
  have hne_0_1 : ¬ p = r := fun e => hne 0 1 (by decide) (by decide) (by decide) (by rw [show a.tmps.getD _ undef = _ from ep, show a.tmps.getD _ undef = _ from er, e])
  replace Xp := Lib.hid (show Go.Proofs.Ytplgaenfcaphnaa.BoxP.Bx wbx p 33 #[.int .i64 x.key.1, .int .i64 x.key.2] from Xp)
  replace Xr := Lib.hid (show Go.Proofs.Ytplgaenfcaphnaa.BoxP.Bx wbx r 33 #[.int .i64 y.key.1, .int .i64 y.key.2] from Xr)
  clear hne hbxs
  have s0 : a.tmps.getD 0 undef = .slice (some ⟨g, o, none⟩) h.length c := hk 0 (by kernel_rfl)
  have s1 : a.tmps.getD 1 undef = .int .i64 i := hk 1 (by kernel_rfl)
  have s2 : a.tmps.getD 2 undef = .int .i64 j := hk 2 (by kernel_rfl)
  have s6 : a.tmps.getD 6 undef = .bool false := hk 6 (by kernel_rfl)
  have s9 : a.tmps.getD 9 undef = .slice (some ⟨g, o, none⟩) h.length c := hsp 0 (by decide) rfl rfl
  have s10 : a.tmps.getD 10 undef = .int .i64 i := hsp 1 (by decide) rfl rfl
  have s11 : a.tmps.getD 11 undef = .pointer (some ⟨g, o + i, none⟩) := hsp 2 (by decide) rfl rfl
  have s12 : a.tmps.getD 12 undef = .iface T V := hsp 3 (by decide) rfl rfl
  have s13 : a.tmps.getD 13 undef = .agg #[.int .i64 x.key.1, .int .i64 x.key.2] := hsp 4 (by decide) rfl rfl
  have s14 : a.tmps.getD 14 undef = .slice (some ⟨g, o, none⟩) h.length c := hsp 5 (by decide) rfl rfl
  have s15 : a.tmps.getD 15 undef = .int .i64 j := hsp 6 (by decide) rfl rfl
  have s16 : a.tmps.getD 16 undef = .pointer (some ⟨g, o + j, none⟩) := hsp 7 (by decide) rfl rfl
  have s17 : a.tmps.getD 17 undef = .iface T2 V2 := hsp 8 (by decide) rfl rfl
  have s18 : a.tmps.getD 18 undef = .agg #[.int .i64 y.key.1, .int .i64 y.key.2] := hsp 9 (by decide) rfl rfl
  have s7 : a.tmps.getD 7 undef = .pointer (some ⟨p, 0, none⟩) := ep
  have s8 : a.tmps.getD 8 undef = .pointer (some ⟨r, 0, none⟩) := er
  clear hk hsp ep er
  obtain ⟨tm, df⟩ := a
  have e := arr_out tm 23 hn
  replace e : tm = #[tm.getD 0 undef, tm.getD 1 undef, tm.getD 2 undef, tm.getD 3 undef, tm.getD 4 undef, tm.getD 5 undef, tm.getD 6 undef, tm.getD 7 undef, tm.getD 8 undef, tm.getD 9 undef, tm.getD 10 undef, tm.getD 11 undef, tm.getD 12 undef, tm.getD 13 undef, tm.getD 14 undef, tm.getD 15 undef, tm.getD 16 undef, tm.getD 17 undef, tm.getD 18 undef, tm.getD 19 undef, tm.getD 20 undef, tm.getD 21 undef, tm.getD 22 undef] := e
  simp only at s0 s1 s2 s6 s9 s10 s11 s12 s13 s14 s15 s16 s17 s18 s7 s8 hdf
  rw [s0, s1, s2, s6, s9, s10, s11, s12, s13, s14, s15, s16, s17, s18, s7, s8] at e
  subst hdf
  clear s0 s1 s2 s6 s9 s10 s11 s12 s13 s14 s15 s16 s17 s18 s7 s8 hn
  generalize tm.getD 3 undef = u3 at e
  generalize tm.getD 4 undef = u4 at e
  generalize tm.getD 5 undef = u5 at e
  generalize tm.getD 19 undef = u19 at e
  generalize tm.getD 20 undef = u20 at e
  generalize tm.getD 21 undef = u21 at e
  generalize tm.getD 22 undef = u22 at e
  subst e
  simp only [Exit.then]
  have p0 := Xp.out.c (i := 0) rfl
  have p1 := Xp.out.c (i := 1) rfl
  have r0 := Xr.out.c (i := 0) rfl
  have r1 := Xr.out.c (i := 1) rfl
  have lp := Xp.out.lt
  have lr := Xr.out.lt
  have hC := Lib.hid (fun (W : World) (hW : Below wbx.heap.size wbx W) => o_cmp2 (x := x.key) (y := y.key) (Nat.lt_of_lt_of_le lp hW.size) (Nat.lt_of_lt_of_le lr hW.size) ((hW.cell (p := ⟨p, 0, none⟩) lp).trans p0) ((hW.cell (p := ⟨p, 1, none⟩) lp).trans p1) ((hW.cell (p := ⟨r, 0, none⟩) lr).trans r0) ((hW.cell (p := ⟨r, 1, none⟩) lr).trans r1))
  replace hbx := Lib.hid hbx
  go_upto_region 2 with fail
  go_region_with (refine (hC.out _ (Below.refl _ _).drew).mono ?_; rintro e w9 ⟨rr, rfl, hrr, rfl⟩)
  go_wp2_with fail
  go_ret
  exact ⟨rfl, hbx.out.drew⟩
end Go.Proofs.Ytplgaenfcaphnaa.LanP

/-
  Contracts of ways' Push, Pop.
-/
namespace Go.Proofs.Ytplgaenfcaphnaa.LanP
open Go.RowKit Go.Sort Go.Proofs.Ytplgaenfcaphnaa.SliceP Go.Proofs.Ytplgaenfcaphnaa.BoxP
open Go.Proofs.Ytplgaenfcaphnaa.IntP (RowI SlI OwnI)
open Go.Proofs.Ytplgaenfcaphnaa.BoolP (RowB SlB OwnB)
open Go.Proofs.Ytplgaenfcaphnaa.MacP (arr_out wp_region_tail)
set_option linter.unusedVariables false
set_option maxRecDepth 100000
theorem grown_tr {a b c : World} {r : Option Nat} (h : a.grownBy b r) (k : b.grownBy c r) : a.grownBy c r := h.trans k
/-- What append made of a heap's row. -/
def Pushed (w : World) (b : Nat) (A : Option Addr) (l : List Wy) (v : Value) (W : World) : Prop := ∃ A' c', v = .slice A' l.length c' ∧ Own W (b + 1) 92 1 (.slice A' l.length c') (l.map wc) ∧ ∀ a, A' = some a → (∃ a0, A = some a0 ∧ a0.block = a.block) ∨ w.heap.size ≤ a.block
set_option maxHeartbeats 8000000 in
theorem o_push {w : World} {b : Nat} {h : List Wy} {A : Option Addr} {c : Nat} (H : Hp w b h A c) (x : Wy) (hl : h.length ≤ 900000) :
    Calls Try.prog 108 #[.pointer (some ⟨b, 0, none⟩), x.v] w fun e w' => e = .returned (.tuple #[]) ∧ ∃ A' c', Hp w' b (h ++ [x]) A' c' ∧ Hop w w' b A A' := by
  obtain ⟨row, hrow⟩ : ∃ r, (Value.slice A h.length c).ownBlock = r := ⟨_, rfl⟩
  have hb := H.bx
  have hown := Lib.hid H.own
  have hrl := Lib.hid (show ∀ k, row = some k → b + 1 ≤ k ∧ k < w.heap.size from fun k hk => H.own.lt k (hrow.trans hk))
  have has := Lib.hid (fun (xT : TypeId) (W : World) => as_way x xT W)
  obtain ⟨T, V, hX⟩ := x.iface
  have hb2 := Lib.hid hb
  have hblt := Lib.hid hb.lt
  rw [hX] at has ⊢
  replace hX := Lib.hid hX
  replace hrow := Lib.hid hrow
  clear H hb
  go_enter Try.func108, Try.ntmps108
  go_upto_region 0 with fail
  refine wp_region_tail (by kernel_rfl) (fun ix => match ix with | 0 => 4 | 1 => 5 | 2 => 6 | 3 => 7 | 4 => 8 | 5 => 9 | 6 => 10 | 7 => 11 | 8 => 12 | _ => 0) 7 9 (by decide) rfl (by kernel_rfl) (by kernel_rfl) (by kernel_rfl) (fun W => w.grownBy W row) (fun W W' => W.grownBy W' row) (fun W hW => grown_none' hW) (fun W W' hW hB => hW.trans (grown_none' hB)) (fun W W' hB hW => (grown_none' hB).trans hW)
    (fun ix v W => match ix with | 0 => v = .pointer (some ⟨b, 0, none⟩) | 1 => v = .pointer (some ⟨b, 0, none⟩) | 2 => v = .pointer (some ⟨b, 0, none⟩) | 3 => v = .slice A h.length c | 4 => v = .iface T V | 5 => v = .iface T V | 6 => ∃ g, v = .slice (some ⟨g, 0, none⟩) 1 1 ∧ w.heap.size ≤ g ∧ Bx W g 92 #[.iface T V] | 7 => Pushed w b A (h ++ [x]) v W | 8 => v = .pointer (some ⟨b, 0, none⟩) | _ => True)
    (fun i v W W' hs hB => by
      match i with
      | 0 => exact hs
      | 1 => exact hs
      | 2 => exact hs
      | 3 => exact hs
      | 4 => exact hs
      | 5 => exact hs
      | 6 => obtain ⟨g, h1, h2, h3⟩ := hs; exact ⟨g, h1, h2, h3.below hB⟩
      | 7 => obtain ⟨A', c', h1, h2, h3⟩ := hs; exact ⟨A', c', h1, h2.below hB, h3⟩
      | 8 => exact hs
      | n + 9 => exact trivial)
    (fun i v W W' hi hs hB hM => by
      match i, hi with
      | 0, _ => exact hs
      | 1, _ => exact hs
      | 2, _ => exact hs
      | 3, _ => exact hs
      | 4, _ => exact hs
      | 5, _ => exact hs
      | 6, _ => obtain ⟨g, h1, h2, h3⟩ := hs; exact ⟨g, h1, h2, h3.grown hM (fun e => by have := (hrl.out g e.symm).2; omega)⟩
      | 8, _ => exact hs
      | n + 9, _ => exact trivial) ?_
  have hbx : ∀ W, w.grownBy W row → Bx W b 86 #[.slice A h.length c] := fun W hW => hb2.out.grown hW (fun e => by have := (hrl.out b e.symm).1; omega)
  replace hbx := Lib.hid hbx
  refine ⟨?_, ?_, ?_, ?_, ?_, ?_, ?_, ?_, ?_, ?_, trivial⟩
  · intro a W2 K hR hm hdep hk hK hall
    replace hK : ∀ v w', v = .pointer (some ⟨b, 0, none⟩) → Below W2.heap.size W2 w' → K (a.put (some 4) v) w' := hK
    have d0 : a.tmps.getD 0 undef = .pointer (some ⟨b, 0, none⟩) := hk 0 (by kernel_rfl)
    have q0 : a.tmps[0]?.getD undef = .pointer (some ⟨b, 0, none⟩) := by simpa [Array.getD_eq_getD_getElem?] using d0
    clear d0 hdep hk hm hR hall
    go_simp
    exact hK _ _ rfl (Below.refl _ _)
  · intro a W2 K hR hm hdep hk hK hall
    replace hK : ∀ v w', v = .pointer (some ⟨b, 0, none⟩) → Below W2.heap.size W2 w' → K (a.put (some 5) v) w' := hK
    have d0 : a.tmps.getD 0 undef = .pointer (some ⟨b, 0, none⟩) := hk 0 (by kernel_rfl)
    have q0 : a.tmps[0]?.getD undef = .pointer (some ⟨b, 0, none⟩) := by simpa [Array.getD_eq_getD_getElem?] using d0
    clear d0 hdep hk hm hR hall
    go_simp
    exact hK _ _ rfl (Below.refl _ _)
  · intro a W2 K hR hm hdep hk hK hall
    replace hK : ∀ v w', v = .pointer (some ⟨b, 0, none⟩) → Below W2.heap.size W2 w' → K (a.put (some 6) v) w' := hK
    have d5 : a.tmps.getD 5 undef = .pointer (some ⟨b, 0, none⟩) := hdep ⟨1, .data⟩ (by simp) rfl (by decide)
    have q5 : a.tmps[5]?.getD undef = .pointer (some ⟨b, 0, none⟩) := by simpa [Array.getD_eq_getD_getElem?] using d5
    clear d5 hdep hk hm hR hall
    go_simp
    exact hK _ _ rfl (Below.refl _ _)
  · intro a W2 K hR hm hdep hk hK hall
    replace hK : ∀ v w', v = .slice A h.length c → Below W2.heap.size W2 w' → K (a.put (some 7) v) w' := hK
    have d6 : a.tmps.getD 6 undef = .pointer (some ⟨b, 0, none⟩) := hdep ⟨2, .data⟩ (by simp) rfl (by decide)
    have q6 : a.tmps[6]?.getD undef = .pointer (some ⟨b, 0, none⟩) := by simpa [Array.getD_eq_getD_getElem?] using d6
    have c0 := (hbx.out W2 hR).c (i := 0) rfl
    clear d6 hdep hk hm hR hall
    go_simp
    exact hK _ _ rfl (Below.refl _ _)
  · intro a W2 K hR hm hdep hk hK hall
    replace hK : ∀ v w', v = .iface T V → Below W2.heap.size W2 w' → K (a.put (some 8) v) w' := hK
    have d1 : a.tmps.getD 1 undef = .iface T V := hk 1 (by kernel_rfl)
    have q1 : a.tmps[1]?.getD undef = .iface T V := by simpa [Array.getD_eq_getD_getElem?] using d1
    clear d1 hdep hk hm hR hall
    go_simp
    exact hK _ _ rfl (Below.refl _ _)
  · intro a W2 K hR hm hdep hk hK hall
    replace hK : ∀ v w', v = .iface T V → Below W2.heap.size W2 w' → K (a.put (some 9) v) w' := hK
    have d8 : a.tmps.getD 8 undef = .iface T V := hdep ⟨4, .data⟩ (by simp) rfl (by decide)
    have q8 : a.tmps[8]?.getD undef = .iface T V := by simpa [Array.getD_eq_getD_getElem?] using d8
    have h9 := has.out
    clear d8 hdep hk hm hR hall
    go_simp
    exact hK _ _ rfl (Below.refl _ _)
  · intro a W2 K hR hm hdep hk hK hall
    replace hK : ∀ v w', (∃ g, v = .slice (some ⟨g, 0, none⟩) 1 1 ∧ w.heap.size ≤ g ∧ Bx w' g 92 #[.iface T V]) → Below W2.heap.size W2 w' → K (a.put (some 10) v) w' := hK
    have d9 : a.tmps.getD 9 undef = .iface T V := hdep ⟨5, .data⟩ (by simp) rfl (by decide)
    have q9 : a.tmps[9]?.getD undef = .iface T V := by simpa [Array.getD_eq_getD_getElem?] using d9
    have hsz := Lib.hid hR.size
    clear d9 hdep hk hm hR hall
    go_simp
    exact hK _ _ ⟨_, rfl, hsz.out, Bx.new _ _ _ rfl⟩ ((Below.refl _ _).alloc (Nat.le_refl _) _)
  · intro a W2 K hR hm hdep hk hK hall
    replace hK : ∀ v w', Pushed w b A (h ++ [x]) v w' → W2.grownBy w' row → K (a.put (some 11) v) w' := hK
    have d7 : a.tmps.getD 7 undef = .slice A h.length c := hdep ⟨3, .data⟩ (by simp) rfl (by decide)
    obtain ⟨g, d10, hg, hX2⟩ : ∃ g, a.tmps.getD 10 undef = .slice (some ⟨g, 0, none⟩) 1 1 ∧ w.heap.size ≤ g ∧ Bx W2 g 92 #[.iface T V] := hdep ⟨6, .data⟩ (by simp) rfl (by decide)
    have hB := hm rfl
    have hown2 := hown.out.below hB
    refine wp_append_sl (.tmp 7) (.tmp 10) 86 rfl elW d7 hown2 d10 (ys := [[Value.iface T V]]) rfl (bx_sl hX2 rfl (by intro cc hcc; simp at hcc; subst hcc; rfl)) (by rw [← hX.out]; exact wholeW [x]) (fun e => by cases e) (by rw [List.length_map]; simp; omega) (by have := hblt.out; have := hB.size; omega) ?_
    intro v' w' o1 g1 hv1
    rw [hrow.out] at g1 hv1
    obtain ⟨A', c', hv, _, _, hA⟩ := o1.form
    have hlen : (h.map wc ++ [[Value.iface T V]]).length = (h ++ [x]).length := by simp
    have hmap : h.map wc ++ [[Value.iface T V]] = (h ++ [x]).map wc := by rw [List.map_append, ← hX.out]; rfl
    rw [hlen] at hv
    rw [hmap, hv] at o1
    refine hK v' w' ⟨A', c', hv, o1, fun ad had => ?_⟩ g1
    subst had
    rw [hv] at hv1
    rcases hv1 with e | e
    · left
      have e2 := hrow.out.trans e.symm
      cases hA0 : A with
      | none => rw [hA0] at e2; cases e2
      | some a0 => rw [hA0] at e2; exact ⟨a0, rfl, Option.some.inj e2⟩
    · right
      have := Option.some.inj e
      have := hB.size
      omega
  · intro a W2 K hR hm hdep hk hK hall
    replace hK : ∀ v w', v = .pointer (some ⟨b, 0, none⟩) → Below W2.heap.size W2 w' → K (a.put (some 12) v) w' := hK
    have d4 : a.tmps.getD 4 undef = .pointer (some ⟨b, 0, none⟩) := hdep ⟨0, .data⟩ (by simp) rfl (by decide)
    have q4 : a.tmps[4]?.getD undef = .pointer (some ⟨b, 0, none⟩) := by simpa [Array.getD_eq_getD_getElem?] using d4
    clear d4 hdep hk hm hR hall
    go_simp
    exact hK _ _ rfl (Below.refl _ _)
  · intro a W2 K hR hm hdep hk hK hall
    replace hK : ∀ w', (∀ j, j < 9 → _) → _ → _ → _ → K a w' := hK
    obtain ⟨hsp, hn, hdf⟩ := hall rfl
    obtain ⟨A', c', h11, o11, n11⟩ : Pushed w b A (h ++ [x]) (a.tmps.getD 11 undef) W2 := hsp 7 (by decide)
    have h12 : a.tmps.getD 12 undef = .pointer (some ⟨b, 0, none⟩) := hsp 8 (by decide)
    have X2 := hbx.out W2 hR
    have hKK := Lib.hid (hK (W2.setCell ⟨b, 0, none⟩ (.slice A' (h ++ [x]).length c')) hsp hn hdf)
    have c0 := X2.c (i := 0) rfl
    have f0 := X2.f 0
    have z0 := X2.lt
    obtain ⟨m, hmm⟩ : ∃ m, (h ++ [x]).length = m := ⟨_, rfl⟩
    rw [hmm] at h11 hKK
    replace o11 := Lib.hid o11
    replace n11 := Lib.hid n11
    replace hR := Lib.hid hR
    replace X2 := Lib.hid X2
    have q11 : a.tmps[11]?.getD undef = .slice A' m c' := by simpa [Array.getD_eq_getD_getElem?] using h11
    have q12 : a.tmps[12]?.getD undef = .pointer (some ⟨b, 0, none⟩) := by simpa [Array.getD_eq_getD_getElem?] using h12
    replace hmm := Lib.hid hmm
    clear h11 h12 hK hsp hall hm hdep hk hn
    replace hdf := Lib.hid hdf
    go_simp
    refine hKK.out ?_
    clear c0 f0 z0 q11 q12 hKK
    have hdf2 := hdf.out
    refine bodyPost_end (v := .tuple #[]) (by simp [results, Try.results108, go_sem]) hdf2 ⟨rfl, A', c', ⟨?_, ?_⟩, ⟨?_, n11.out⟩⟩
    · rw [hmm.out]; exact X2.out.set 0 _
    · exact o11.out.kept (setCell_grown _ _ _ _) (.inr (fun e => by have := (o11.out.lt _ e).1; omega))
    · refine ⟨hR.out.os, hR.out.tape, hR.out.output, by have := hR.out.size; simpa [World.setCell] using this, fun k hk hs => ?_⟩
      have h1 : k ≠ b := fun e => hs (.inl e)
      have h2 := Below.heap_setCell W2 ⟨b, 0, none⟩ (.slice A' m c') k h1
      refine h2.trans (hR.out.block k hk (fun e => hs (.inr ?_)))
      have e2 := hrow.out.trans e.symm
      cases hA0 : A with
      | none => rw [hA0] at e2; cases e2
      | some a0 => rw [hA0] at e2; exact ⟨a0, rfl, Option.some.inj e2⟩
theorem hop_set (w : World) (b : Nat) (A : Option Addr) (v : Value) : Hop w (w.setCell ⟨b, 0, none⟩ v) b A A := ⟨⟨rfl, rfl, rfl, by simp [World.setCell], fun k hk hs => Below.heap_setCell w ⟨b, 0, none⟩ v k (fun e => hs (.inl e))⟩, fun a ha => .inl ⟨a, ha, rfl⟩⟩
set_option maxHeartbeats 8000000 in
theorem o_pop {w : World} {b : Nat} {h : List Wy} {A : Option Addr} {c : Nat} (H : Hp w b h A c) {m : Nat} (hm : h.length = m + 1) :
    Calls Try.prog 107 #[.pointer (some ⟨b, 0, none⟩)] w fun e w' => e = .returned (at_ h m).v ∧ Hp w' b (h.take m) A c ∧ Hop w w' b A A := by
  have hR := H.row
  obtain ⟨g, o, hA, hg, ci⟩ := Row.wat hR (at_get (show m < h.length by omega))
  have hb := H.bx
  have c0 := hb.c (i := 0) rfl
  have f0 := hb.f 0
  have z0 := hb.lt
  have hcap := hR.cap
  have hmx := hR.mx
  have hown := Lib.hid H.own
  have hge := Lib.hid (own_far H.own)
  obtain ⟨T, V, hX⟩ := (at_ h m).iface
  rw [hX] at ci ⊢
  replace hX := Lib.hid hX
  have hbh := Lib.hid hb
  rw [hm] at c0 hown
  have hml : (m : Int) < ((m + 1 : Nat) : Int) := by omega
  have hmc : m ≤ c := by omega
  have hsb : ((m + 1 : Nat) : Int) - 1 = (m : Int) := by omega
  have hwr : IntKind.i64.wrap (((m + 1 : Nat) : Int) - 1) = (m : Int) := by rw [hsb]; exact IntWalk.i64_in _ (by omega)
  have hA2 := Lib.hid hA
  rw [hA] at c0 ⊢
  replace hm := Lib.hid hm
  clear H hR hb hA hcap
  go_enter Try.func107, Try.ntmps107
  go_wp2_with fail
  go_ret
  rw [← hA2.out]
  refine ⟨rfl, ⟨?_, ?_⟩, hop_set _ _ _ _⟩
  · have e : (h.take m).length = m := by rw [List.length_take]; have := hm.out; omega
    rw [e]; exact hbh.out.set 0 _
  · have e : (h.take m).length = m := by rw [List.length_take]; have := hm.out; omega
    rw [e, List.map_take]
    have hc := own_cut hown.out (m := m) (by rw [List.length_map]; have := hm.out; omega)
    exact hc.kept (setCell_grown _ _ _ _) (.inr (fun e => by have := (hc.lt _ e).1; omega))
end Go.Proofs.Ytplgaenfcaphnaa.LanP

/-
  Contracts of container/heap's up, Push.
-/
namespace Go.Proofs.Ytplgaenfcaphnaa.LanP
open Go.RowKit Go.Sort Go.Proofs.Ytplgaenfcaphnaa.SliceP Go.Proofs.Ytplgaenfcaphnaa.BoxP
set_option linter.unusedVariables false
set_option maxRecDepth 100000
theorem hop_grown {w w' : World} {b g : Nat} {o : Nat} {A : Option Addr} (hA : A = some ⟨g, o, none⟩) (h : w.grownBy w' (some g)) : Hop w w' b A A :=
  ⟨⟨h.os, h.tape, h.output, h.size, fun k hk hs => h.block k hk (fun e => hs (.inr ⟨_, hA, (Option.some.inj e).symm⟩))⟩, fun a ha => .inl ⟨a, ha, rfl⟩⟩
theorem Hp.swapped {w w' : World} {b g : Nat} {h h' : List Wy} {A : Option Addr} {c : Nat} (H : Hp w b h A c) (hl : h'.length = h.length) (hA : A = some ⟨g, 0, none⟩) (o : Own w' (b + 1) 92 1 (.slice A h.length c) (h'.map wc)) (hg : w.grownBy w' (some g)) : Hp w' b h' A c :=
  ⟨by rw [hl]; exact H.bx.grown hg (fun e => by have := (own_far H.own _ hA).1; have := Option.some.inj e; simp only at *; omega), by rw [hl]; exact o⟩
abbrev hpv (b : Nat) : Value := .iface 88 (.pointer (some ⟨b, 0, none⟩))
set_option maxHeartbeats 8000000 in
theorem o_up {w : World} {b : Nat} {h : List Wy} {A : Option Addr} {c : Nat} (H : Hp w b h A c) {j : Nat} (hj : j < h.length) (hu : UpI h j) (hl : h.length ≤ 1000000) :
    Calls Try.prog 62 #[hpv b, .int .i64 j] w fun e w' => e = .returned (.tuple #[]) ∧ ∃ h', Hp w' b h' A c ∧ Mix h h' ∧ HeapN h' h'.length ∧ Hop w w' b A A := by
  have H0 := Lib.hid H
  replace hu := Lib.hid hu
  clear H
  go_enter Try.func62, Try.ntmps62
  go_wp2_with fail
  go_loopw [1] (fun v wr => ∃ (k : Nat) (h' : List Wy), v = .int .i64 k ∧ k < h'.length ∧ Hp wr b h' A c ∧ Mix h h' ∧ UpI h' k ∧ Hop w wr b A A) (fun v _ => (intOf v).toNat)
  case atStart => exact ⟨j, h, rfl, hj, H0.out, Mix.refl _, hu.out, Hop.of (Below.refl _ _)⟩
  case round =>
    obtain ⟨k, h', rfl, hk, H, hm, hu, hp⟩ := hrel
    obtain ⟨wo, hwo⟩ : ∃ W, W = wr := ⟨_, rfl⟩
    subst hwo
    have hkl : k < 1000000 := by have := hm.len; omega
    have x0 := H.bx.c (i := 0) rfl
    have l1 := m_less x0
    rcases Nat.eq_zero_or_pos k with h0 | h0
    · subst h0
      replace H := Lib.hid H
      replace hm := Lib.hid hm
      replace hu := Lib.hid hu
      replace hp := Lib.hid hp
      go_wp2_with fail
      refine bodyPost_end (v := .tuple #[]) (by simp [results, Try.results62, go_sem]) rfl ⟨rfl, h', H.out, hm.out, up_zero hu.out, hp.out⟩
    · obtain ⟨i, hi⟩ : ∃ i, (k - 1) / 2 = i := ⟨_, rfl⟩
      have q1 : ((k : Int) - 1).tdiv 2 = (i : Int) := by
        rw [show ((k : Int) - 1) = ((k - 1 : Nat) : Int) by omega, ← hi]; rfl
      have q2 : ¬ (i : Int) = (k : Int) := by omega
      have q3 : ((i : Int) == (k : Int)) = false := by simpa using q2
      have q4 : wrap64 (i : Int) = (i : Int) := IntWalk.wrap64_in _ (by omega)
      have hil : i < h'.length := by omega
      replace hi := Lib.hid hi
      obtain ⟨bb, hbb⟩ : ∃ bb, btr (ky h' k) (ky h' i) = bb := ⟨_, rfl⟩
      have hL := Lib.hid (o_less H.row hk hil hbb)
      have hS := Lib.hid (fun W (hW : Below wo.heap.size wo W) => o_swap (H.own.below hW) hil hk)
      have hM := Lib.hid (fun W (hW : Below wo.heap.size wo W) => m_swap ((H.bx.below hW).c (i := 0) rfl))
      replace hbb := Lib.hid hbb
      replace H := Lib.hid H
      replace hm := Lib.hid hm
      replace hu := Lib.hid hu
      replace hp := Lib.hid hp
      cases bb
      · go_wp2_with fail
        go_at_call 104
        (with_reducible refine hL.out.mono ?_)
        rintro e w1 ⟨rfl, hb1⟩
        have hp1 := Lib.hid (hp.out.trans (Hop.of hb1))
        have H1 := Lib.hid (H.out.below hb1)
        clear hb1 l1 x0 hM hS
        go_wp2_with fail
        refine bodyPost_end (v := .tuple #[]) (by simp [results, Try.results62, go_sem]) rfl ⟨rfl, h', H1.out, hm.out, up_end hu.out hi.out hbb.out, hp1.out⟩
      · go_wp2_with fail
        go_at_call 104
        (with_reducible refine hL.out.mono ?_)
        rintro e w1 ⟨rfl, hb1⟩
        have hp1 := Lib.hid (hp.out.trans (Hop.of hb1))
        have H1 := Lib.hid (H.out.below hb1)
        have l2 := hM.out w1 hb1
        have hS1 := Lib.hid (hS.out w1 hb1)
        clear hb1 l1 x0 hM hS
        go_wp2_with fail
        go_at_call 105
        (with_reducible refine hS1.out.mono ?_)
        rintro e w2 ⟨rfl, o2, g, hg, hgr⟩
        have hp2 := Lib.hid (hp1.out.trans (hop_grown (b := b) hg hgr))
        have H2 := Lib.hid (H1.out.swapped (swp_len _ _ _) hg o2 hgr)
        have hm2 := Lib.hid (hm.out.swp hil hk)
        have hu2 := Lib.hid (up_step hu.out hk h0 hi.out hbb.out)
        have hln := Lib.hid (show i < (swp h' i k).length by rw [swp_len]; exact hil)
        have hlt : i < k := by have := hi.out; omega
        clear l2 hgr hg o2
        go_wp2_with fail
        go_roundw
        case rel => exact ⟨i, _, rfl, hln.out, H2.out, hm2.out, hu2.out, hp2.out⟩
        case measure => simp [intOf]; omega
set_option maxHeartbeats 8000000 in
theorem o_hpush {w : World} {b : Nat} {h : List Wy} {A : Option Addr} {c : Nat} (H : Hp w b h A c) (hh : HeapN h h.length) (x : Wy) (hl : h.length ≤ 900000) :
    Calls Try.prog 42 #[hpv b, x.v] w fun e w' => e = .returned (.tuple #[]) ∧ ∃ h' A' c', Hp w' b h' A' c' ∧ Mix (h ++ [x]) h' ∧ HeapN h' h'.length ∧ Hop w w' b A A' := by
  have hP := Lib.hid (o_push H x hl)
  have hm1 := m_push (.pointer (some ⟨b, 0, none⟩))
  obtain ⟨T, V, hX⟩ := x.iface
  rw [hX] at hP ⊢
  replace hX := Lib.hid hX
  replace hh := Lib.hid hh
  clear H
  go_enter Try.func42, Try.ntmps42
  go_wp2_with fail
  go_at_call 108
  (with_reducible refine hP.out.mono ?_)
  rintro e w1 ⟨rfl, A1, c1, H1, hp1⟩
  have hlen : (h ++ [x]).length = h.length + 1 := by simp
  have hU := Lib.hid (fun W (hW : Below w1.heap.size w1 W) => o_up (H1.below hW) (j := h.length) (by omega) (up_new hh.out x) (by omega))
  have l2 := m_len (H1.bx.c (i := 0) rfl)
  have hLn := Lib.hid (fun W => o_len A1 (h ++ [x]).length c1 W)
  have q1 : (((h ++ [x]).length : Nat) : Int) - 1 = (h.length : Int) := by omega
  rw [hlen] at l2 hLn q1
  have q2 : IntKind.i64.wrap (((h.length + 1 : Nat) : Int) - 1) = (h.length : Int) := by rw [q1]; exact IntWalk.i64_in _ (by omega)
  replace H1 := Lib.hid H1
  replace hp1 := Lib.hid hp1
  replace hlen := Lib.hid hlen
  go_wp2_with fail
  go_at_call 43
  (with_reducible refine (hLn.out _).mono ?_)
  rintro e w2 ⟨rfl, rfl⟩
  go_wp2_with fail
  go_at_call 62
  (with_reducible refine (hU.out _ (Below.refl _ _)).mono ?_)
  rintro e w3 ⟨rfl, h', H3, hm3, hh3, hp3⟩
  have K := Lib.hid (And.intro H3 (And.intro hm3 (And.intro hh3 (hp1.out.trans hp3))))
  clear H3 hm3 hh3 hp3 l2
  go_wp2_with fail
  refine bodyPost_end (v := .tuple #[]) (by simp [results, Try.results42, go_sem]) rfl ⟨rfl, h', A1, c1, K.out.1, K.out.2.1, K.out.2.2.1, K.out.2.2.2⟩
end Go.Proofs.Ytplgaenfcaphnaa.LanP
