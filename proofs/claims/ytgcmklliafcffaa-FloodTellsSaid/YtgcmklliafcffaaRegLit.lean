/-
  A region that draws its order, and makes one variable and stores into it at its end ('x := T{..}'): walked once, an operation at a time.
-/
import Derived.Test.YtgcmklliafcffaaRegMono
import Derived.Lib.SmallJoins
import Derived.StillTail
namespace Go.Proofs.Ytgcmklliafcffaa.MacP
open Go.RowKit
set_option linter.unusedVariables false

section
variable {P : Program} {ops : Array Oper} {Q : Exit → Act → World → Prop}

/-- w' is w, but that block b holds these cells. -/
structure Wrote (b : Nat) (vals : Array Value) (T : TypeId) (w w' : World) : Prop where
  os : w'.os = w.os
  tape : w'.tape = w.tape
  output : w'.output = w.output
  size : w'.heap.size = w.heap.size
  block : ∀ k, k ≠ b → w'.heap[k]? = w.heap[k]?
  at_ : w'.heap[b]? = some (.cells vals T (0, 0))
theorem Wrote.below {b : Nat} {vals : Array Value} {T : TypeId} {w w' : World} (h : Wrote b vals T w w') : Below b w w' :=
  ⟨h.os, h.tape, h.output, Nat.le_of_eq h.size.symm, fun k hk => h.block k (Nat.ne_of_lt hk)⟩
theorem Wrote.start {b : Nat} {vals : Array Value} {T : TypeId} {w : World} (h : w.heap[b]? = some (.cells vals T (0, 0))) : Wrote b vals T w w := ⟨rfl, rfl, rfl, rfl, fun _ _ => rfl, h⟩
theorem Wrote.set {b i : Nat} {vals : Array Value} {T : TypeId} {w w' : World} (h : Wrote b vals T w w') (v : Value) : Wrote b (vals.setIfInBounds i v) T w (w'.setCell ⟨b, i, none⟩ v) :=
  ⟨h.os, h.tape, h.output, by rw [← h.size]; simp, fun k hk => by rw [Below.heap_setCell _ _ _ _ (by exact hk)]; exact h.block k hk, Joins.block_setCell h.at_ v⟩

def litB (ops : Array Oper) (d : Nat → Nat) (S : Nat) (n : Nat) : Bool :=
  (List.range ops.size).all fun i => if i = S then ((ops[i]?).map fun o => o.dst == none && o.guard.isNone).getD false
    else ((ops[i]?).map fun o => o.dst == some (d i) && o.guard.isNone).getD false && decide (d i < n) && (List.range ops.size).all fun j => decide (j = S) || decide (i = j) || decide (d i ≠ d j)
theorem litB_spec {d : Nat → Nat} {S n : Nat} (h : litB ops d S n = true) : ∀ i o, ops[i]? = some o → o.guard = none ∧ (i = S → o.dst = none) ∧ (i ≠ S → o.dst = some (d i) ∧ d i < n ∧ ∀ j, j < ops.size → j ≠ S → i ≠ j → d i ≠ d j) := by
  intro i o ho
  have hi : i < ops.size := (Array.getElem?_eq_some_iff.1 ho).1
  unfold litB at h
  rw [List.all_eq_true] at h
  have h1 := h i (List.mem_range.2 hi)
  by_cases hS : i = S
  · rw [if_pos hS] at h1
    simp only [ho, Option.map_some, Option.getD_some, Bool.and_eq_true, beq_iff_eq, Option.isNone_iff_eq_none] at h1
    exact ⟨h1.2, fun _ => h1.1, fun k => absurd hS k⟩
  · rw [if_neg hS] at h1
    simp only [ho, Option.map_some, Option.getD_some, Bool.and_eq_true, beq_iff_eq, Option.isNone_iff_eq_none, decide_eq_true_eq, List.all_eq_true, List.mem_range, Bool.or_eq_true] at h1
    obtain ⟨⟨⟨a, b⟩, c⟩, e⟩ := h1
    exact ⟨b, fun k => absurd k hS, fun _ => ⟨a, c, fun j hj hjS hne => ((e j hj).resolve_left fun k => k.elim hjS hne)⟩⟩

/-- Slot k is written by no operation. -/
def outL (ops : Array Oper) (d : Nat → Nat) (S k : Nat) : Bool := (List.range ops.size).all fun j => decide (j = S) || decide (d j ≠ k)

/-- What is asked of the operations, one by one: A is the alloc, S the store. -/
def LitOk (P : Program) (Q : Exit → Act → World → Prop) (ops : Array Oper) (d : Nat → Nat) (sp : Nat → Value → World → Prop) (A S : Nat) (T : TypeId) (zs vals : Array Value) (a0 : Act) (w0 : World) : List Oper → Nat → Prop
  | [], _ => True
  | o :: rest, i => (∀ (a : Act) (w : World) (K : Act → World → Prop), Below w0.heap.size w0 w → (∀ e ∈ o.after, Region.binds .any e = true → e.on ≠ A → e.on ≠ S → sp e.on (a.tmps.getD (d e.on) undef) w) →
      (∀ k, outL ops d S k = true → a.tmps.getD k undef = a0.tmps.getD k undef) →
      (if i = A then K (a.put (some (d A)) (.pointer (some ⟨w.heap.size, 0, none⟩))) (w.alloc (.cells zs T))
       else if i = S then ∃ b cs, a.tmps.getD (d A) undef = .pointer (some ⟨b, 0, none⟩) ∧ w.heap[b]? = some (.cells cs T (0, 0)) ∧ cs.size = zs.size ∧ ∀ w', Wrote b vals T w w' → K a w'
       else ∀ v w', sp i v w' → Below w.heap.size w w' → K (a.put (some (d i)) v) w') → Oper.wp P o a w K Q) ∧ LitOk P Q ops d sp A S T zs vals a0 w0 rest (i + 1)
theorem litOk_at {d : Nat → Nat} {sp : Nat → Value → World → Prop} {A S : Nat} {T : TypeId} {zs vals : Array Value} {a0 : Act} {w0 : World} : ∀ (l : List Oper) (n i : Nat) (o : Oper), LitOk P Q ops d sp A S T zs vals a0 w0 l n → l[i]? = some o →
    ∀ (a : Act) (w : World) (K : Act → World → Prop), Below w0.heap.size w0 w → (∀ e ∈ o.after, Region.binds .any e = true → e.on ≠ A → e.on ≠ S → sp e.on (a.tmps.getD (d e.on) undef) w) →
      (∀ k, outL ops d S k = true → a.tmps.getD k undef = a0.tmps.getD k undef) →
      (if n + i = A then K (a.put (some (d A)) (.pointer (some ⟨w.heap.size, 0, none⟩))) (w.alloc (.cells zs T))
       else if n + i = S then ∃ b cs, a.tmps.getD (d A) undef = .pointer (some ⟨b, 0, none⟩) ∧ w.heap[b]? = some (.cells cs T (0, 0)) ∧ cs.size = zs.size ∧ ∀ w', Wrote b vals T w w' → K a w'
       else ∀ v w', sp (n + i) v w' → Below w.heap.size w w' → K (a.put (some (d (n + i))) v) w') → Oper.wp P o a w K Q
  | [], n, i, o, _, h => by simp at h
  | p :: rest, n, 0, o, hk, h => by
    obtain rfl : p = o := by simpa using h
    exact hk.1
  | p :: rest, n, i + 1, o, hk, h => by
    have := litOk_at rest (n + 1) i o hk.2 (by simpa using h)
    rw [show n + 1 + i = n + (i + 1) by omega] at this
    exact this

theorem getD_put (a : Act) (k i : Nat) (v : Value) (h : i < a.tmps.size) : (a.put (some i) v).tmps.getD k undef = if k = i then v else a.tmps.getD k undef := by
  simp only [Act.put, Array.getD_eq_getD_getElem?]
  by_cases hkd : k = i
  · subst hkd; rw [if_pos rfl, Array.getElem?_setIfInBounds_self_of_lt (by omega)]; rfl
  · rw [if_neg hkd, Array.getElem?_setIfInBounds_ne (Ne.symm hkd)]
theorem listed_ne {listed : Array Bool} {i j : Nat} (h : j ≠ i) : (listed.setIfInBounds i true).getD j false = listed.getD j false := by
  simp only [Array.getD_eq_getD_getElem?, Array.getElem?_setIfInBounds_ne (Ne.symm h)]
theorem listed_self {listed : Array Bool} {i : Nat} (h : i < listed.size) : (listed.setIfInBounds i true).getD i false = true := by
  simp [Array.getD_eq_getD_getElem?, h]
theorem listed_lt {listed : Array Bool} {j : Nat} (h : listed.getD j false = true) : j < listed.size := by
  rcases Nat.lt_or_ge j listed.size with k | k
  · exact k
  · simp [Array.getElem?_eq_none k] at h

structure LitInv (ops : Array Oper) (d : Nat → Nat) (sp : Nat → Value → World → Prop) (A S : Nat) (T : TypeId) (m : Nat) (vals : Array Value) (a0 : Act) (w0 : World) (listed : Array Bool) (a : Act) (w : World) : Prop where
  ls : listed.size = ops.size
  bel : Below w0.heap.size w0 w
  sz : a.tmps.size = a0.tmps.size
  df : a.defers = a0.defers
  vs : ∀ i, listed.getD i false = true → i ≠ A → i ≠ S → sp i (a.tmps.getD (d i) undef) w
  ks : ∀ k, (∀ j, listed.getD j false = true → j ≠ S → d j ≠ k) → a.tmps.getD k undef = a0.tmps.getD k undef
  va : listed.getD A false = true → ∃ b cs, a.tmps.getD (d A) undef = .pointer (some ⟨b, 0, none⟩) ∧ w0.heap.size ≤ b ∧ w.heap[b]? = some (.cells cs T (0, 0)) ∧ cs.size = m ∧ (listed.getD S false = true → cs = vals)
  sa : listed.getD S false = true → listed.getD A false = true

theorem wp_region_lit {id : Nat} {l : List Oper} {a0 : Act} {w0 : World} (hm : P.follows .mixedOrders = true) (d : Nat → Nat) (A S : Nat) (T : TypeId) (zs vals : Array Value) (hAS : A ≠ S) (hA : A < l.length) (hS : S < l.length)
    (hp : litB l.toArray d S a0.tmps.size = true) (ho : orderB l.toArray = true) (hSA : Region.waitsFor .any l.toArray S A = true) (hv : vals.size = zs.size)
    (sp : Nat → Value → World → Prop) (mono : ∀ i v w w', sp i v w → Below w.heap.size w w' → sp i v w') (mono2 : ∀ i v b w w', sp i v w → w0.heap.size ≤ b → Wrote b vals T w w' → sp i v w')
    (hop : LitOk P Q l.toArray d sp A S T zs vals a0 w0 l 0)
    (hend : ∀ (a : Act) (w : World) (b : Nat), Below w0.heap.size w0 w → (∀ i, i < l.length → i ≠ A → i ≠ S → sp i (a.tmps.getD (d i) undef) w) → (∀ k, outL l.toArray d S k = true → a.tmps.getD k undef = a0.tmps.getD k undef) →
      a.tmps.getD (d A) undef = .pointer (some ⟨b, 0, none⟩) → w0.heap.size ≤ b → w.heap[b]? = some (.cells vals T (0, 0)) → a.tmps.size = a0.tmps.size → a.defers = a0.defers → Q .normal a w) :
    (Code.region id l.toArray true).wp P Q a0 w0 := by
  refine wp_region_any hm ?_
  have hd0 : Below w0.heap.size w0 { w0 with drawn := w0.drawn + 1 } := (Below.refl _ _).drew
  have hll : l.toArray.size = l.length := by simp
  have hspec := litB_spec hp
  refine wpAny_of_inv (LitInv l.toArray d sp A S T zs.size vals a0 w0) (fun _ _ _ h => h.ls) ?_ ?_ _ _ _ _ ?_ ?_
  · intro listed a w i h hi
    obtain ⟨h1, o, hoi, hdeps⟩ := mem_ready.1 hi
    have hilt : i < l.toArray.size := (Array.getElem?_eq_some_iff.1 hoi).1
    have hilt' : i < l.length := by omega
    have hli : listed.getD i false = false := by
      have : i < listed.size := by rw [h.ls]; exact hilt
      simp only [Array.getD_eq_getD_getElem?, Array.getElem?_eq_getElem this, Option.getD_some] at h1 ⊢
      exact h1
    obtain ⟨e1, e2, e3⟩ := hspec i o hoi
    unfold wpOp
    simp only [hoi]
    have hw : Region.wanted o (yielded l.toArray a.tmps) = true := by simp [Region.wanted, e1]
    rw [if_pos hw]
    have hks : ∀ k, outL l.toArray d S k = true → a.tmps.getD k undef = a0.tmps.getD k undef := fun k hk => h.ks k fun j hj hjS => by
      have hjl : j < l.toArray.size := by rw [← h.ls]; exact listed_lt hj
      unfold outL at hk
      rw [List.all_eq_true] at hk
      have := hk j (List.mem_range.2 hjl)
      simp only [Bool.or_eq_true, decide_eq_true_eq] at this
      exact this.resolve_left hjS
    have hdp : ∀ e ∈ o.after, Region.binds .any e = true → e.on ≠ A → e.on ≠ S → sp e.on (a.tmps.getD (d e.on) undef) w := fun e he hb hA' hS' => h.vs _ (hdeps e he hb) hA' hS'
    refine .inl (litOk_at l 0 i o hop (by simpa using hoi) a w _ h.bel hdp hks ?_)
    rw [Nat.zero_add]
    by_cases hiA : i = A
    · rw [if_pos hiA]
      subst hiA
      obtain ⟨_, f1, f2⟩ := e3 hAS
      have hnS : listed.getD S false ≠ true := fun k => by rw [h.sa k] at hli; cases hli
      refine ⟨by simpa using h.ls, h.bel.alloc h.bel.size _, by simpa [Act.put] using h.sz, by simpa [Act.put] using h.df, fun j hj hjA hjS => ?_, fun k hk => ?_, fun _ => ?_, fun k => ?_⟩
      · rw [listed_ne hjA] at hj
        have hjl : j < l.toArray.size := by rw [← h.ls]; exact listed_lt hj
        rw [getD_put _ _ _ _ (by rw [h.sz]; exact f1), if_neg (fun k => f2 j hjl hjS (Ne.symm hjA) k.symm)]
        exact mono _ _ _ _ (h.vs j hj hjA hjS) ((Below.refl _ _).alloc (Nat.le_refl _) _)
      · have hne : k ≠ d i := fun q => hk i (listed_self (by rw [h.ls]; exact hilt)) hAS q.symm
        rw [getD_put _ _ _ _ (by rw [h.sz]; exact f1), if_neg hne]
        exact h.ks k fun j hj hjS => hk j (by
          by_cases hji : j = i
          · subst hji; exact listed_self (by rw [h.ls]; exact hilt)
          · rw [listed_ne hji]; exact hj) hjS
      · refine ⟨w.heap.size, zs, by rw [getD_put _ _ _ _ (by rw [h.sz]; exact f1), if_pos rfl], h.bel.size, heap_alloc_new w _, rfl, fun k => ?_⟩
        rw [listed_ne (Ne.symm hAS)] at k
        exact absurd k hnS
      · rw [listed_ne (Ne.symm hAS)] at k
        exact absurd k hnS
    · rw [if_neg hiA]
      by_cases hiS : i = S
      · rw [if_pos hiS]
        subst hiS
        obtain ⟨oj, hoj, e, he, hb, hon⟩ := Region.waitsFor_spec hSA
        obtain rfl : oj = o := by rw [hoi] at hoj; exact (Option.some.inj hoj).symm
        have hlA : listed.getD A false = true := by rw [← hon]; exact hdeps e he hb
        obtain ⟨b, cs, g1, g2, g3, g4, g5⟩ := h.va hlA
        refine ⟨b, cs, g1, g3, g4, fun w' hw' => ?_⟩
        refine ⟨by simpa using h.ls, h.bel.trans (hw'.below.mono g2), h.sz, h.df, fun j hj hjA hjS => ?_, fun k hk => ?_, fun _ => ?_, fun _ => ?_⟩
        · rw [listed_ne hjS] at hj
          exact mono2 _ _ _ _ _ (h.vs j hj hjA hjS) g2 hw'
        · exact h.ks k fun j hj hjS => hk j (by rw [listed_ne hjS]; exact hj) hjS
        · exact ⟨b, vals, g1, g2, hw'.at_, hv, fun _ => rfl⟩
        · rw [listed_ne (Ne.symm hiA)]; exact hlA
      · rw [if_neg hiS]
        obtain ⟨f0, f1, f2⟩ := e3 hiS
        intro v w' hv' hbw
        refine ⟨by simpa using h.ls, h.bel.trans (hbw.mono h.bel.size), by simpa [Act.put] using h.sz, by simpa [Act.put] using h.df, fun j hj hjA hjS => ?_, fun k hk => ?_, fun k => ?_, fun k => ?_⟩
        · by_cases hji : j = i
          · subst hji
            rw [getD_put _ _ _ _ (by rw [h.sz]; exact f1), if_pos rfl]; exact hv'
          · rw [listed_ne hji] at hj
            have hjl : j < l.toArray.size := by rw [← h.ls]; exact listed_lt hj
            rw [getD_put _ _ _ _ (by rw [h.sz]; exact f1), if_neg (fun k => f2 j hjl hjS (Ne.symm hji) k.symm)]
            exact mono _ _ _ _ (h.vs j hj hjA hjS) hbw
        · have hne : k ≠ d i := fun q => hk i (listed_self (by rw [h.ls]; exact hilt)) hiS q.symm
          rw [getD_put _ _ _ _ (by rw [h.sz]; exact f1), if_neg hne]
          exact h.ks k fun j hj hjS => hk j (by
            by_cases hji : j = i
            · subst hji; exact listed_self (by rw [h.ls]; exact hilt)
            · rw [listed_ne hji]; exact hj) hjS
        · rw [listed_ne (Ne.symm hiA)] at k
          obtain ⟨b, cs, g1, g2, g3, g4, g5⟩ := h.va k
          refine ⟨b, cs, ?_, g2, ?_, g4, fun q => ?_⟩
          · rw [getD_put _ _ _ _ (by rw [h.sz]; exact f1), if_neg (fun q => f2 A (by omega) hAS hiA q.symm)]; exact g1
          · have hlt : b < w.heap.size := by
              rcases Nat.lt_or_ge b w.heap.size with q | q
              · exact q
              · rw [Array.getElem?_eq_none q] at g3; cases g3
            rw [hbw.block b hlt]; exact g3
          · rw [listed_ne (Ne.symm hiS)] at q; exact g5 q
        · rw [listed_ne (Ne.symm hiS)] at k
          rw [listed_ne (Ne.symm hiA)]; exact h.sa k
  · intro listed a w h hr
    have hl := all_listed ho listed hr h.ls
    obtain ⟨b, cs, g1, g2, g3, g4, g5⟩ := h.va (hl A (by omega))
    have := g5 (hl S (by omega))
    subst this
    refine hend a w b h.bel (fun i hi hiA hiS => h.vs i (hl i (by omega)) hiA hiS) (fun k hk => h.ks k fun j hj hjS => ?_) g1 g2 g3 h.sz h.df
    have hjl : j < l.toArray.size := by rw [← h.ls]; exact listed_lt hj
    unfold outL at hk
    rw [List.all_eq_true] at hk
    have := hk j (List.mem_range.2 hjl)
    simp only [Bool.or_eq_true, decide_eq_true_eq] at this
    exact this.resolve_left hjS
  · unfold left
    exact Nat.le_trans (List.countP_le_length) (by simp)
  · have hf : ∀ i, (Array.replicate l.toArray.size false).getD i false = true → False := fun i hi => by
      simp only [Array.getD_eq_getD_getElem?, Array.getElem?_replicate] at hi
      split at hi <;> simp at hi
    exact ⟨by simp, hd0, rfl, rfl, fun i hi => absurd hi (fun k => hf i k), fun k _ => rfl, fun k => absurd k (fun q => hf _ q), fun k => absurd k (fun q => hf _ q)⟩

/-- A frame, written out. -/
theorem arr_out (xs : Array Value) (n : Nat) (h : xs.size = n) : xs = ((List.range n).map fun k => xs.getD k undef).toArray := by
  apply Array.ext
  · simp [h]
  · intro i h1 h2
    simp [Array.getD_eq_getD_getElem?, h1]
end
end Go.Proofs.Ytgcmklliafcffaa.MacP
