/-
  A law on a region that draws its order, of which one operation is a store, wherever it stands: all keep a relation of one's own.
-/
import Derived.Test.YtnghilcjecjljaaRegRel
namespace Go.Proofs.Ytnghilcjecjljaa.MacP
open Go.RowKit
set_option linter.unusedVariables false

section
variable {P : Program} {ops : Array Oper} {Q : Exit → Act → World → Prop}

/-- What the store's fact looks at: the slots of operations that it waits for. -/
def seesB (ops : Array Oper) (S : Nat) (D : List Nat) : Bool := D.all fun j => decide (j ≠ S) && ((ops[S]?).map fun o => o.after.any fun e => decide (e.on = j) && Region.binds .any e).getD false
theorem seesB_spec {S : Nat} {D : List Nat} (h : seesB ops S D = true) (j : Nat) (hj : j ∈ D) : j ≠ S ∧ ∃ o, ops[S]? = some o ∧ ∃ e ∈ o.after, e.on = j ∧ Region.binds .any e = true := by
  unfold seesB at h
  rw [List.all_eq_true] at h
  have h1 := h j hj
  rw [Bool.and_eq_true, decide_eq_true_eq] at h1
  refine ⟨h1.1, ?_⟩
  cases ho : ops[S]? with
  | none => rw [ho] at h1; simp at h1
  | some o =>
    rw [ho] at h1
    simp only [Option.map_some, Option.getD_some] at h1
    rw [Array.any_eq_true] at h1
    obtain ⟨_, x, hx, h4⟩ := h1
    rw [Bool.and_eq_true, decide_eq_true_eq] at h4
    exact ⟨o, rfl, o.after[x], Array.getElem_mem hx, h4⟩

def AllOk (P : Program) (Q : Exit → Act → World → Prop) (R : World → World → Prop) (ops : Array Oper) (d : Nat → Nat) (sp : Nat → Value → World → Prop) (spS : (Nat → Value) → World → Prop) (S : Nat) (a0 : Act) (w0 : World) : List Oper → Nat → Prop
  | [], _ => True
  | o :: rest, i => (∀ (a : Act) (w : World) (K : Act → World → Prop), R w0 w → (∀ e ∈ o.after, Region.binds .any e = true → e.on ≠ S → sp e.on (a.tmps.getD (d e.on) undef) w) →
      (∀ k, outL ops d S k = true → a.tmps.getD k undef = a0.tmps.getD k undef) →
      (if i = S then ∀ w', spS (fun k => a.tmps.getD k undef) w' → R w w' → K a w' else ∀ v w', sp i v w' → R w w' → K (a.put (some (d i)) v) w') → Oper.wp P o a w K Q) ∧ AllOk P Q R ops d sp spS S a0 w0 rest (i + 1)
theorem allOk_at {R : World → World → Prop} {d : Nat → Nat} {sp : Nat → Value → World → Prop} {spS : (Nat → Value) → World → Prop} {S : Nat} {a0 : Act} {w0 : World} : ∀ (l : List Oper) (n i : Nat) (o : Oper), AllOk P Q R ops d sp spS S a0 w0 l n → l[i]? = some o →
    ∀ (a : Act) (w : World) (K : Act → World → Prop), R w0 w → (∀ e ∈ o.after, Region.binds .any e = true → e.on ≠ S → sp e.on (a.tmps.getD (d e.on) undef) w) →
      (∀ k, outL ops d S k = true → a.tmps.getD k undef = a0.tmps.getD k undef) →
      (if n + i = S then ∀ w', spS (fun k => a.tmps.getD k undef) w' → R w w' → K a w' else ∀ v w', sp (n + i) v w' → R w w' → K (a.put (some (d (n + i))) v) w') → Oper.wp P o a w K Q
  | [], n, i, o, _, h => by simp at h
  | p :: rest, n, 0, o, hk, h => by
    obtain rfl : p = o := by simpa using h
    exact hk.1
  | p :: rest, n, i + 1, o, hk, h => by
    have := allOk_at rest (n + 1) i o hk.2 (by simpa using h)
    rw [show n + 1 + i = n + (i + 1) by omega] at this
    exact this

structure AllInv (ops : Array Oper) (R : World → World → Prop) (d : Nat → Nat) (sp : Nat → Value → World → Prop) (spS : (Nat → Value) → World → Prop) (S : Nat) (a0 : Act) (w0 : World) (listed : Array Bool) (a : Act) (w : World) : Prop where
  ls : listed.size = ops.size
  r : R w0 w
  sz : a.tmps.size = a0.tmps.size
  df : a.defers = a0.defers
  vs : ∀ i, listed.getD i false = true → i ≠ S → sp i (a.tmps.getD (d i) undef) w
  vS : listed.getD S false = true → spS (fun k => a.tmps.getD k undef) w
  ks : ∀ k, (∀ j, listed.getD j false = true → j ≠ S → d j ≠ k) → a.tmps.getD k undef = a0.tmps.getD k undef
  dn : ∀ j o, listed.getD j false = true → ops[j]? = some o → ∀ e ∈ o.after, Region.binds .any e = true → listed.getD e.on false = true

theorem wp_region_all {id : Nat} {l : List Oper} {a0 : Act} {w0 : World} (hm : P.follows .mixedOrders = true) (R : World → World → Prop) (htrans : ∀ {x y z}, R x y → R y z → R x z) (hdrew : ∀ w : World, R w { w with drawn := w.drawn + 1 })
    (d : Nat → Nat) (S : Nat) (D : List Nat) (hS : S < l.length) (hp : litB l.toArray d S a0.tmps.size = true) (ho : orderB l.toArray = true) (hD : seesB l.toArray S D = true)
    (sp : Nat → Value → World → Prop) (mono : ∀ i v w w', sp i v w → R w w' → sp i v w')
    (spS : (Nat → Value) → World → Prop) (monoS : ∀ σ σ' w w', (∀ j ∈ D, σ (d j) = σ' (d j)) → R w w' → spS σ w → spS σ' w')
    (hop : AllOk P Q R l.toArray d sp spS S a0 w0 l 0)
    (hend : ∀ (a : Act) (w : World), R w0 w → (∀ i, i < l.length → i ≠ S → sp i (a.tmps.getD (d i) undef) w) → spS (fun k => a.tmps.getD k undef) w → (∀ k, outL l.toArray d S k = true → a.tmps.getD k undef = a0.tmps.getD k undef) →
      a.tmps.size = a0.tmps.size → a.defers = a0.defers → Q .normal a w) :
    (Code.region id l.toArray true).wp P Q a0 w0 := by
  have hspec := litB_spec hp
  have hout : ∀ k, outL l.toArray d S k = true → ∀ j, j < l.toArray.size → j ≠ S → d j ≠ k := fun k hk j hj hjS => by
    unfold outL at hk
    rw [List.all_eq_true] at hk
    have := hk j (List.mem_range.2 hj)
    rw [Bool.or_eq_true, decide_eq_true_eq, decide_eq_true_eq] at this
    exact this.resolve_left hjS
  refine wp_region_any hm ?_
  refine wpAny_of_inv (AllInv l.toArray R d sp spS S a0 w0) (fun _ _ _ h => h.ls) ?_ ?_ _ _ _ _ ?_ ?_
  · intro listed a w i h hi
    obtain ⟨h1, o, hoi, hdeps⟩ := mem_ready.1 hi
    obtain ⟨e1, e2, e3⟩ := hspec i o hoi
    have hilt : i < l.toArray.size := (Array.getElem?_eq_some_iff.1 hoi).1
    have hils : i < listed.size := by rw [h.ls]; exact hilt
    have hlist : ∀ j, listed.getD j false = true → j < l.toArray.size := fun j hj => by rw [← h.ls]; exact listed_lt hj
    have hli : listed.getD i false = false := by
      simp only [Array.getD_eq_getD_getElem?, Array.getElem?_eq_getElem hils, Option.getD_some] at h1 ⊢
      exact h1
    have hdn : ∀ j o', (listed.setIfInBounds i true).getD j false = true → l.toArray[j]? = some o' → ∀ e ∈ o'.after, Region.binds .any e = true → (listed.setIfInBounds i true).getD e.on false = true := fun j o' hj ho' e he hbn => by
      have hon : listed.getD e.on false = true := by
        by_cases hji : j = i
        · subst hji
          rw [hoi] at ho'
          obtain rfl := Option.some.inj ho'
          exact hdeps e he hbn
        · rw [listed_ne hji] at hj
          exact h.dn j o' hj ho' e he hbn
      by_cases hei : e.on = i
      · rw [hei]; exact listed_self hils
      · rw [listed_ne hei]; exact hon
    unfold wpOp
    simp only [hoi]
    have hw : Region.wanted o (yielded l.toArray a.tmps) = true := by simp [Region.wanted, e1]
    rw [if_pos hw]
    refine .inl (allOk_at l 0 i o hop (by simpa using hoi) a w _ h.r (fun e he hbn hS' => h.vs _ (hdeps e he hbn) hS') (fun k hkk => h.ks k (fun j hj hjS => hout k hkk j (hlist j hj) hjS)) ?_)
    rw [Nat.zero_add]
    by_cases hiS : i = S
    · rw [if_pos hiS]
      intro w' hv hbw
      refine ⟨by simpa using h.ls, htrans h.r hbw, h.sz, h.df, fun j hj hjS => ?_, fun _ => hv, fun k hkk => h.ks k fun j hj hjS => hkk j ?_ hjS, hdn⟩
      · rw [listed_ne (by omega)] at hj
        exact mono _ _ _ _ (h.vs j hj hjS) hbw
      · rw [listed_ne (by omega)]; exact hj
    · rw [if_neg hiS]
      intro v w' hv hbw
      obtain ⟨_, hdl, hdd⟩ := e3 hiS
      refine ⟨by simpa using h.ls, htrans h.r hbw, by simpa [Act.put] using h.sz, by simpa [Act.put] using h.df, fun j hj hjS => ?_, fun hSl => ?_, fun k hkk => ?_, hdn⟩
      · rw [getD_put _ _ _ _ (by rw [h.sz]; exact hdl)]
        by_cases hji : j = i
        · subst hji; rw [if_pos rfl]; exact hv
        · rw [listed_ne hji] at hj
          rw [if_neg (fun hh => hdd j (hlist j hj) hjS (Ne.symm hji) hh.symm)]
          exact mono _ _ _ _ (h.vs j hj hjS) hbw
      · rw [listed_ne (Ne.symm hiS)] at hSl
        refine monoS _ _ _ _ (fun j hj => ?_) hbw (h.vS hSl)
        obtain ⟨hjS, o', ho', e, he, hej, hbn⟩ := seesB_spec hD j hj
        have hjl := h.dn S o' hSl ho' e he hbn
        rw [hej] at hjl
        have hji : j ≠ i := by rintro rfl; rw [hli] at hjl; cases hjl
        show a.tmps.getD (d j) undef = (a.put (some (d i)) v).tmps.getD (d j) undef
        rw [getD_put _ _ _ _ (by rw [h.sz]; exact hdl), if_neg (fun hh => hdd j (hlist j hjl) hjS (Ne.symm hji) hh.symm)]
      · have hne : k ≠ d i := fun hh => hkk i (listed_self hils) hiS hh.symm
        rw [getD_put _ _ _ _ (by rw [h.sz]; exact hdl), if_neg hne]
        refine h.ks k fun j hj hjS => hkk j ?_ hjS
        have hji : j ≠ i := by rintro rfl; rw [hli] at hj; cases hj
        rw [listed_ne hji]; exact hj
  · intro listed a w h hr
    have hl := all_listed ho listed hr h.ls
    exact hend a w h.r (fun i hi hiS => h.vs i (hl i (by simpa using hi)) hiS) (h.vS (hl S (by simpa using hS))) (fun k hkk => h.ks k fun j hj hjS => hout k hkk j (by rw [← h.ls]; exact listed_lt hj) hjS) h.sz h.df
  · unfold left
    exact Nat.le_trans (List.countP_le_length) (by simp)
  · have hnone : ∀ i, (Array.replicate l.toArray.size false).getD i false = true → False := fun i hi => by
      simp only [Array.getD_eq_getD_getElem?, Array.getElem?_replicate] at hi
      split at hi <;> simp at hi
    exact ⟨by simp, hdrew w0, rfl, rfl, fun i hi _ => (hnone i hi).elim, fun hi => (hnone S hi).elim, fun k _ => rfl, fun j _ hj => (hnone j hj).elim⟩
end
end Go.Proofs.Ytnghilcjecjljaa.MacP
