/-
  A region that draws its order, whose operations read, or make memory, and change none: walked once, an operation at a time, in whatever order they come.
-/
import Derived.Orders
import Derived.Below
import Derived.Lib.SmallJoins
import Derived.StillTail
namespace Go.Proofs.Ytlgfogllkoabpaa.QMacP
open Go.RowKit
set_option linter.unusedVariables false

theorem countP_le (p q : Nat → Bool) (l : List Nat) (hpq : ∀ j, q j = true → p j = true) : l.countP q ≤ l.countP p := by
  induction l with
  | nil => simp
  | cons a l ih =>
    rw [List.countP_cons, List.countP_cons]
    by_cases h : q a = true
    · rw [if_pos h, if_pos (hpq a h)]; omega
    · rw [if_neg h]; omega
theorem countP_lt (p q : Nat → Bool) (l : List Nat) (hpq : ∀ j, q j = true → p j = true) (i : Nat) (hi : i ∈ l) (hp : p i = true) (hq : q i = false) : l.countP q < l.countP p := by
  induction l with
  | nil => cases hi
  | cons a l ih =>
    rw [List.countP_cons, List.countP_cons]
    rcases List.mem_cons.1 hi with rfl | h
    · rw [if_pos hp, hq]
      have := countP_le p q l hpq
      simp; omega
    · have := ih h
      by_cases h : q a = true
      · rw [if_pos h, if_pos (hpq a h)]; omega
      · rw [if_neg h]; omega

section
variable {P : Program} {ops : Array Oper} {Q : Exit → Act → World → Prop}

def left (ops : Array Oper) (listed : Array Bool) : Nat := (List.range ops.size).countP fun i => !listed.getD i true
theorem left_zero {listed : Array Bool} (h : left ops listed = 0) : Region.ready .any ops listed = [] := by
  unfold Region.ready
  rw [List.filter_eq_nil_iff]
  intro i hi
  unfold left at h
  rw [List.countP_eq_zero] at h
  have h1 := h i hi
  have h2 : listed.getD i true = true := by simpa using h1
  simp [h2, -Array.getD_eq_getD_getElem?]
theorem left_set {listed : Array Bool} {i : Nat} (hs : listed.size = ops.size) (hi : i < ops.size) (h : listed.getD i true = false) : left ops (listed.setIfInBounds i true) < left ops listed := by
  refine countP_lt _ _ _ (fun j hj => ?_) i (List.mem_range.2 hi) (by simp [h]) ?_
  · by_cases hji : j = i
    · subst hji; simp [hs, hi] at hj
    · simp only [Array.getD_eq_getD_getElem?, Array.getElem?_setIfInBounds_ne (Ne.symm hji)] at hj
      simpa [Array.getD_eq_getD_getElem?] using hj
  · simp [hs, hi]

/-- A region by an invariant on what has come up, the frame and the world. -/
theorem wpAny_of_inv (Inv : Array Bool → Act → World → Prop) (hsz : ∀ listed a w, Inv listed a w → listed.size = ops.size)
    (hstep : ∀ listed a w i, Inv listed a w → i ∈ Region.ready .any ops listed → wpOp P ops Q i (Inv (listed.setIfInBounds i true)) a w)
    (hend : ∀ listed a w, Inv listed a w → Region.ready .any ops listed = [] → Q .normal a w) :
    ∀ (fuel : Nat) (listed : Array Bool) (a : Act) (w : World), left ops listed ≤ fuel → Inv listed a w → wpAny P .any ops Q fuel listed a w
  | 0, listed, a, w, hl, h => by
    have hr := left_zero (ops := ops) (listed := listed) (by omega)
    exact ⟨hr, hend listed a w h hr⟩
  | fuel + 1, listed, a, w, hl, h => by
    refine ⟨hend listed a w h, fun i hi => ?_⟩
    refine wpOp_mono (fun a' w' h' => ?_) (hstep listed a w i h hi)
    refine wpAny_of_inv Inv hsz hstep hend fuel _ a' w' ?_ h'
    obtain ⟨h1, o, ho, _⟩ := mem_ready.1 hi
    have := left_set (ops := ops) (hsz _ _ _ h) (Array.getElem?_eq_some_iff.1 ho).1 h1
    omega

/-- What is asked of each operation: it has no guard, and writes slot 'd i'. -/
def plainB (ops : Array Oper) (d : Nat → Nat) (n : Nat) : Bool :=
  (List.range ops.size).all fun i => ((ops[i]?).map fun o => o.dst == some (d i) && o.guard.isNone).getD false && decide (d i < n) && (List.range ops.size).all fun j => decide (i = j) || decide (d i ≠ d j)

theorem plainB_spec {d : Nat → Nat} {n : Nat} (h : plainB ops d n = true) : ∀ i o, ops[i]? = some o → o.dst = some (d i) ∧ o.guard = none ∧ d i < n ∧ ∀ j, j < ops.size → i ≠ j → d i ≠ d j := by
  intro i o ho
  have hi : i < ops.size := (Array.getElem?_eq_some_iff.1 ho).1
  unfold plainB at h
  rw [List.all_eq_true] at h
  have h1 := h i (List.mem_range.2 hi)
  simp only [ho, Option.map_some, Option.getD_some, Bool.and_eq_true, beq_iff_eq, Option.isNone_iff_eq_none, decide_eq_true_eq, List.all_eq_true, List.mem_range, Bool.or_eq_true] at h1
  obtain ⟨⟨⟨a, b⟩, c⟩, e⟩ := h1
  exact ⟨a, b, c, fun j hj hne => (e j hj).resolve_left hne⟩

/-- Each operation waits for earlier ones alone. -/
def orderB (ops : Array Oper) : Bool := (List.range ops.size).all fun i => ((ops[i]?).map fun o => o.after.all fun e => !Region.binds .any e || decide (e.on < i)).getD false
theorem all_listed (h : orderB ops = true) (listed : Array Bool) (hr : Region.ready .any ops listed = []) (hs : listed.size = ops.size) : ∀ i, i < ops.size → listed.getD i false = true := by
  intro i
  induction i using Nat.strongRecOn with
  | ind i ih =>
    intro hi
    cases hl : listed.getD i false
    · exfalso
      have ho : ops[i]? = some ops[i] := Array.getElem?_eq_getElem hi
      unfold orderB at h
      rw [List.all_eq_true] at h
      have h1 := h i (List.mem_range.2 hi)
      simp only [ho, Option.map_some, Option.getD_some, Array.all_eq_true_iff_forall_mem, Bool.or_eq_true, decide_eq_true_eq] at h1
      have h2 : ∀ e ∈ ops[i].after, Region.binds .any e = true → e.on < i := fun e he hb => (h1 e he).resolve_left (by rw [hb]; simp)
      have hm : i ∈ Region.ready .any ops listed := mem_ready.2 ⟨by
        simp only [Array.getD_eq_getD_getElem?, Array.getElem?_eq_getElem (show i < listed.size by omega), Option.getD_some] at hl ⊢
        exact hl, ops[i], ho, fun e he hb => ih e.on (h2 e he hb) (Nat.lt_trans (h2 e he hb) hi)⟩
      rw [hr] at hm
      cases hm
    · rfl

/-- Each operation's value meets 'sp i', which stays true as memory is made; a region that draws its order is run an operation at a time. -/
theorem wp_region_mono {id : Nat} {a0 : Act} {w0 : World} (hm : P.follows .mixedOrders = true) (d : Nat → Nat) (hp : plainB ops d a0.tmps.size = true)
    (sp : Nat → Value → World → Prop) (mono : ∀ i v w w', sp i v w → Below w.heap.size w w' → sp i v w')
    (hop : ∀ i o, ops[i]? = some o → ∀ (a : Act) (w : World), Below w0.heap.size w0 w → (∀ e ∈ o.after, Region.binds .any e = true → sp e.on (a.tmps.getD (d e.on) undef) w) →
      (∀ k, (∀ j, j < ops.size → d j ≠ k) → a.tmps.getD k undef = a0.tmps.getD k undef) →
      ∀ K : Act → World → Prop, (∀ v w', sp i v w' → Below w.heap.size w w' → K (a.put (some (d i)) v) w') → Oper.wp P o a w K Q)
    (hend : ∀ (a : Act) (w : World), Below w0.heap.size w0 w → (∀ i, i < ops.size → sp i (a.tmps.getD (d i) undef) w) → (∀ k, (∀ j, j < ops.size → d j ≠ k) → a.tmps.getD k undef = a0.tmps.getD k undef) →
      a.tmps.size = a0.tmps.size → a.defers = a0.defers → Q .normal a w)
    (ho : orderB ops = true) :
    (Code.region id ops true).wp P Q a0 w0 := by
  refine wp_region_any hm ?_
  have hd0 : Below w0.heap.size w0 { w0 with drawn := w0.drawn + 1 } := (Below.refl _ _).drew
  refine wpAny_of_inv (fun listed a w => listed.size = ops.size ∧ Below w0.heap.size w0 w ∧ a.tmps.size = a0.tmps.size ∧ a.defers = a0.defers ∧ (∀ i, listed.getD i false = true → sp i (a.tmps.getD (d i) undef) w) ∧
    (∀ k, (∀ j, listed.getD j false = true → d j ≠ k) → a.tmps.getD k undef = a0.tmps.getD k undef)) (fun _ _ _ h => h.1) ?_ ?_ _ _ _ _ ?_ ?_
  · rintro listed a w i ⟨hs, hb, hn, hdf, hsp, hk⟩ hi
    obtain ⟨h1, o, ho, hdeps⟩ := mem_ready.1 hi
    obtain ⟨e1, e2, e3, e4⟩ := plainB_spec hp i o ho
    have hilt : i < ops.size := (Array.getElem?_eq_some_iff.1 ho).1
    have hlist : ∀ j, listed.getD j false = true → j < ops.size := fun j hj => by
      rcases Nat.lt_or_ge j listed.size with h | h
      · omega
      · simp [Array.getElem?_eq_none h] at hj
    unfold wpOp
    simp only [ho]
    have hw : Region.wanted o (yielded ops a.tmps) = true := by simp [Region.wanted, e2]
    rw [if_pos hw]
    refine .inl (hop i o ho a w hb (fun e he hbn => hsp _ (hdeps e he hbn)) (fun k hkk => hk k (fun j hj => hkk j (hlist j hj))) _ ?_)
    intro v w' hv hbw
    have hget : ∀ k, (a.put (some (d i)) v).tmps.getD k undef = if k = d i then v else a.tmps.getD k undef := fun k => by
      simp only [Act.put, Array.getD_eq_getD_getElem?]
      by_cases hkd : k = d i
      · subst hkd; rw [if_pos rfl, Array.getElem?_setIfInBounds_self_of_lt (by omega)]; rfl
      · rw [if_neg hkd, Array.getElem?_setIfInBounds_ne (Ne.symm hkd)]
    refine ⟨by simpa using hs, hb.trans (hbw.mono hb.size), by simpa [Act.put] using hn, by simpa [Act.put] using hdf, fun j hj => ?_, fun k hkk => ?_⟩
    · rw [hget]
      by_cases hji : j = i
      · subst hji; rw [if_pos rfl]; exact hv
      · have hj' : listed.getD j false = true := by
          simpa [Array.getD_eq_getD_getElem?, Array.getElem?_setIfInBounds_ne (Ne.symm hji)] using hj
        rw [if_neg (fun h => e4 j (hlist j hj') (Ne.symm hji) h.symm)]
        exact mono _ _ _ _ (hsp j hj') hbw
    · rw [hget]
      have hne : k ≠ d i := fun h => hkk i (by simp [Array.getD_eq_getD_getElem?, hs, hilt]) h.symm
      rw [if_neg hne]
      refine hk k fun j hj => hkk j ?_
      by_cases hji : j = i
      · subst hji; simp [Array.getD_eq_getD_getElem?, hs, hilt]
      · simpa [Array.getD_eq_getD_getElem?, Array.getElem?_setIfInBounds_ne (Ne.symm hji)] using hj
  · rintro listed a w ⟨hs, hb, hn, hdf, hsp, hk⟩ hr
    have hl := all_listed ho listed hr hs
    refine hend a w hb (fun i hi => hsp i (hl i hi)) (fun k hkk => hk k fun j hj => hkk j ?_) hn hdf
    rcases Nat.lt_or_ge j listed.size with h | h
    · omega
    · simp [Array.getElem?_eq_none h] at hj
  · unfold left
    exact Nat.le_trans (List.countP_le_length) (by simp)
  · refine ⟨by simp, hd0, rfl, rfl, fun i hi => ?_, fun k _ => rfl⟩
    exfalso
    rcases Nat.lt_or_ge i ops.size with h | h
    · simp [Array.getD_eq_getD_getElem?, h] at hi
    · simp [Array.getD_eq_getD_getElem?, h] at hi
/-- Slot k is written by no operation. -/
def outB (ops : Array Oper) (d : Nat → Nat) (k : Nat) : Bool := (List.range ops.size).all fun j => decide (d j ≠ k)
/-- What is asked of the operations, one by one. -/
def OpsOk (P : Program) (Q : Exit → Act → World → Prop) (ops : Array Oper) (d : Nat → Nat) (sp : Nat → Value → World → Prop) (a0 : Act) (w0 : World) : List Oper → Nat → Prop
  | [], _ => True
  | o :: rest, i => (∀ (a : Act) (w : World) (K : Act → World → Prop), Below w0.heap.size w0 w → (∀ e ∈ o.after, Region.binds .any e = true → sp e.on (a.tmps.getD (d e.on) undef) w) →
      (∀ k, outB ops d k = true → a.tmps.getD k undef = a0.tmps.getD k undef) →
      (∀ v w', sp i v w' → Below w.heap.size w w' → K (a.put (some (d i)) v) w') → Oper.wp P o a w K Q) ∧ OpsOk P Q ops d sp a0 w0 rest (i + 1)
theorem opsOk_at {d : Nat → Nat} {sp : Nat → Value → World → Prop} {a0 : Act} {w0 : World} : ∀ (l : List Oper) (n i : Nat) (o : Oper), OpsOk P Q ops d sp a0 w0 l n → l[i]? = some o →
    ∀ (a : Act) (w : World) (K : Act → World → Prop), Below w0.heap.size w0 w → (∀ e ∈ o.after, Region.binds .any e = true → sp e.on (a.tmps.getD (d e.on) undef) w) →
      (∀ k, outB ops d k = true → a.tmps.getD k undef = a0.tmps.getD k undef) →
      (∀ v w', sp (n + i) v w' → Below w.heap.size w w' → K (a.put (some (d (n + i))) v) w') → Oper.wp P o a w K Q
  | [], n, i, o, _, h => by simp at h
  | p :: rest, n, 0, o, hk, h => by
    obtain rfl : p = o := by simpa using h
    exact hk.1
  | p :: rest, n, i + 1, o, hk, h => by
    have := opsOk_at rest (n + 1) i o hk.2 (by simpa using h)
    rw [show n + 1 + i = n + (i + 1) by omega] at this
    exact this
theorem wp_region_ops {id : Nat} {l : List Oper} {a0 : Act} {w0 : World} (hm : P.follows .mixedOrders = true) (d : Nat → Nat) (hp : plainB l.toArray d a0.tmps.size = true) (ho : orderB l.toArray = true)
    (sp : Nat → Value → World → Prop) (mono : ∀ i v w w', sp i v w → Below w.heap.size w w' → sp i v w')
    (hop : OpsOk P Q l.toArray d sp a0 w0 l 0)
    (hend : ∀ (a : Act) (w : World), Below w0.heap.size w0 w → (∀ i, i < l.length → sp i (a.tmps.getD (d i) undef) w) → (∀ k, outB l.toArray d k = true → a.tmps.getD k undef = a0.tmps.getD k undef) →
      a.tmps.size = a0.tmps.size → a.defers = a0.defers → Q .normal a w) :
    (Code.region id l.toArray true).wp P Q a0 w0 := by
  have hout : ∀ k, outB l.toArray d k = true → ∀ j, j < l.toArray.size → d j ≠ k := fun k hk j hj => by
    unfold outB at hk
    rw [List.all_eq_true] at hk
    exact of_decide_eq_true (hk j (List.mem_range.2 hj))
  refine wp_region_mono hm d hp sp mono (fun i o hio a w hb hdep hk K hK => ?_) (fun a w hb hsp hk => hend a w hb (by simpa using hsp) (fun k hkk => hk k (hout k hkk))) ho
  exact opsOk_at l 0 i o hop (by simpa using hio) a w K hb hdep (fun k hkk => hk k (hout k hkk)) (by rw [Nat.zero_add]; exact hK)
end
end Go.Proofs.Ytlgfogllkoabpaa.QMacP

/-
  A region that draws its order, and makes one variable and stores into it at its end ('x := T{..}'): walked once, an operation at a time.
-/
namespace Go.Proofs.Ytlgfogllkoabpaa.QMacP
open Go.RowKit
set_option linter.unusedVariables false

section
variable {P : Program} {ops : Array Oper} {Q : Exit → Act → World → Prop}

/-- w' is w, but that block b holds these cells. -/
structure Wrote (b : Nat) (vals : Array Value) (T : TypeId) (w w' : World) : Prop where
  os : w'.os = w.os
  tape : w'.tape = w.tape
  output : w'.output = w.output
  size : w'.heap.size = w.heap.size
  block : ∀ k, k ≠ b → w'.heap[k]? = w.heap[k]?
  at_ : w'.heap[b]? = some (.cells vals T (0, 0))
theorem Wrote.below {b : Nat} {vals : Array Value} {T : TypeId} {w w' : World} (h : Wrote b vals T w w') : Below b w w' :=
  ⟨h.os, h.tape, h.output, Nat.le_of_eq h.size.symm, fun k hk => h.block k (Nat.ne_of_lt hk)⟩
theorem Wrote.start {b : Nat} {vals : Array Value} {T : TypeId} {w : World} (h : w.heap[b]? = some (.cells vals T (0, 0))) : Wrote b vals T w w := ⟨rfl, rfl, rfl, rfl, fun _ _ => rfl, h⟩
theorem Wrote.set {b i : Nat} {vals : Array Value} {T : TypeId} {w w' : World} (h : Wrote b vals T w w') (v : Value) : Wrote b (vals.setIfInBounds i v) T w (w'.setCell ⟨b, i, none⟩ v) :=
  ⟨h.os, h.tape, h.output, by rw [← h.size]; simp, fun k hk => by rw [Below.heap_setCell _ _ _ _ (by exact hk)]; exact h.block k hk, Joins.block_setCell h.at_ v⟩

def litB (ops : Array Oper) (d : Nat → Nat) (S : Nat) (n : Nat) : Bool :=
  (List.range ops.size).all fun i => if i = S then ((ops[i]?).map fun o => o.dst == none && o.guard.isNone).getD false
    else ((ops[i]?).map fun o => o.dst == some (d i) && o.guard.isNone).getD false && decide (d i < n) && (List.range ops.size).all fun j => decide (j = S) || decide (i = j) || decide (d i ≠ d j)
theorem litB_spec {d : Nat → Nat} {S n : Nat} (h : litB ops d S n = true) : ∀ i o, ops[i]? = some o → o.guard = none ∧ (i = S → o.dst = none) ∧ (i ≠ S → o.dst = some (d i) ∧ d i < n ∧ ∀ j, j < ops.size → j ≠ S → i ≠ j → d i ≠ d j) := by
  intro i o ho
  have hi : i < ops.size := (Array.getElem?_eq_some_iff.1 ho).1
  unfold litB at h
  rw [List.all_eq_true] at h
  have h1 := h i (List.mem_range.2 hi)
  by_cases hS : i = S
  · rw [if_pos hS] at h1
    simp only [ho, Option.map_some, Option.getD_some, Bool.and_eq_true, beq_iff_eq, Option.isNone_iff_eq_none] at h1
    exact ⟨h1.2, fun _ => h1.1, fun k => absurd hS k⟩
  · rw [if_neg hS] at h1
    simp only [ho, Option.map_some, Option.getD_some, Bool.and_eq_true, beq_iff_eq, Option.isNone_iff_eq_none, decide_eq_true_eq, List.all_eq_true, List.mem_range, Bool.or_eq_true] at h1
    obtain ⟨⟨⟨a, b⟩, c⟩, e⟩ := h1
    exact ⟨b, fun k => absurd k hS, fun _ => ⟨a, c, fun j hj hjS hne => ((e j hj).resolve_left fun k => k.elim hjS hne)⟩⟩

/-- Slot k is written by no operation. -/
def outL (ops : Array Oper) (d : Nat → Nat) (S k : Nat) : Bool := (List.range ops.size).all fun j => decide (j = S) || decide (d j ≠ k)

/-- What is asked of the operations, one by one: A is the alloc, S the store. -/
def LitOk (P : Program) (Q : Exit → Act → World → Prop) (ops : Array Oper) (d : Nat → Nat) (sp : Nat → Value → World → Prop) (A S : Nat) (T : TypeId) (zs vals : Array Value) (a0 : Act) (w0 : World) : List Oper → Nat → Prop
  | [], _ => True
  | o :: rest, i => (∀ (a : Act) (w : World) (K : Act → World → Prop), Below w0.heap.size w0 w → (∀ e ∈ o.after, Region.binds .any e = true → e.on ≠ A → e.on ≠ S → sp e.on (a.tmps.getD (d e.on) undef) w) →
      (∀ k, outL ops d S k = true → a.tmps.getD k undef = a0.tmps.getD k undef) →
      (if i = A then K (a.put (some (d A)) (.pointer (some ⟨w.heap.size, 0, none⟩))) (w.alloc (.cells zs T))
       else if i = S then ∃ b cs, a.tmps.getD (d A) undef = .pointer (some ⟨b, 0, none⟩) ∧ w.heap[b]? = some (.cells cs T (0, 0)) ∧ cs.size = zs.size ∧ ∀ w', Wrote b vals T w w' → K a w'
       else ∀ v w', sp i v w' → Below w.heap.size w w' → K (a.put (some (d i)) v) w') → Oper.wp P o a w K Q) ∧ LitOk P Q ops d sp A S T zs vals a0 w0 rest (i + 1)
theorem litOk_at {d : Nat → Nat} {sp : Nat → Value → World → Prop} {A S : Nat} {T : TypeId} {zs vals : Array Value} {a0 : Act} {w0 : World} : ∀ (l : List Oper) (n i : Nat) (o : Oper), LitOk P Q ops d sp A S T zs vals a0 w0 l n → l[i]? = some o →
    ∀ (a : Act) (w : World) (K : Act → World → Prop), Below w0.heap.size w0 w → (∀ e ∈ o.after, Region.binds .any e = true → e.on ≠ A → e.on ≠ S → sp e.on (a.tmps.getD (d e.on) undef) w) →
      (∀ k, outL ops d S k = true → a.tmps.getD k undef = a0.tmps.getD k undef) →
      (if n + i = A then K (a.put (some (d A)) (.pointer (some ⟨w.heap.size, 0, none⟩))) (w.alloc (.cells zs T))
       else if n + i = S then ∃ b cs, a.tmps.getD (d A) undef = .pointer (some ⟨b, 0, none⟩) ∧ w.heap[b]? = some (.cells cs T (0, 0)) ∧ cs.size = zs.size ∧ ∀ w', Wrote b vals T w w' → K a w'
       else ∀ v w', sp (n + i) v w' → Below w.heap.size w w' → K (a.put (some (d (n + i))) v) w') → Oper.wp P o a w K Q
  | [], n, i, o, _, h => by simp at h
  | p :: rest, n, 0, o, hk, h => by
    obtain rfl : p = o := by simpa using h
    exact hk.1
  | p :: rest, n, i + 1, o, hk, h => by
    have := litOk_at rest (n + 1) i o hk.2 (by simpa using h)
    rw [show n + 1 + i = n + (i + 1) by omega] at this
    exact this

theorem getD_put (a : Act) (k i : Nat) (v : Value) (h : i < a.tmps.size) : (a.put (some i) v).tmps.getD k undef = if k = i then v else a.tmps.getD k undef := by
  simp only [Act.put, Array.getD_eq_getD_getElem?]
  by_cases hkd : k = i
  · subst hkd; rw [if_pos rfl, Array.getElem?_setIfInBounds_self_of_lt (by omega)]; rfl
  · rw [if_neg hkd, Array.getElem?_setIfInBounds_ne (Ne.symm hkd)]
theorem listed_ne {listed : Array Bool} {i j : Nat} (h : j ≠ i) : (listed.setIfInBounds i true).getD j false = listed.getD j false := by
  simp only [Array.getD_eq_getD_getElem?, Array.getElem?_setIfInBounds_ne (Ne.symm h)]
theorem listed_self {listed : Array Bool} {i : Nat} (h : i < listed.size) : (listed.setIfInBounds i true).getD i false = true := by
  simp [Array.getD_eq_getD_getElem?, h]
theorem listed_lt {listed : Array Bool} {j : Nat} (h : listed.getD j false = true) : j < listed.size := by
  rcases Nat.lt_or_ge j listed.size with k | k
  · exact k
  · simp [Array.getElem?_eq_none k] at h

structure LitInv (ops : Array Oper) (d : Nat → Nat) (sp : Nat → Value → World → Prop) (A S : Nat) (T : TypeId) (m : Nat) (vals : Array Value) (a0 : Act) (w0 : World) (listed : Array Bool) (a : Act) (w : World) : Prop where
  ls : listed.size = ops.size
  bel : Below w0.heap.size w0 w
  sz : a.tmps.size = a0.tmps.size
  df : a.defers = a0.defers
  vs : ∀ i, listed.getD i false = true → i ≠ A → i ≠ S → sp i (a.tmps.getD (d i) undef) w
  ks : ∀ k, (∀ j, listed.getD j false = true → j ≠ S → d j ≠ k) → a.tmps.getD k undef = a0.tmps.getD k undef
  va : listed.getD A false = true → ∃ b cs, a.tmps.getD (d A) undef = .pointer (some ⟨b, 0, none⟩) ∧ w0.heap.size ≤ b ∧ w.heap[b]? = some (.cells cs T (0, 0)) ∧ cs.size = m ∧ (listed.getD S false = true → cs = vals)
  sa : listed.getD S false = true → listed.getD A false = true

theorem wp_region_lit {id : Nat} {l : List Oper} {a0 : Act} {w0 : World} (hm : P.follows .mixedOrders = true) (d : Nat → Nat) (A S : Nat) (T : TypeId) (zs vals : Array Value) (hAS : A ≠ S) (hA : A < l.length) (hS : S < l.length)
    (hp : litB l.toArray d S a0.tmps.size = true) (ho : orderB l.toArray = true) (hSA : Region.waitsFor .any l.toArray S A = true) (hv : vals.size = zs.size)
    (sp : Nat → Value → World → Prop) (mono : ∀ i v w w', sp i v w → Below w.heap.size w w' → sp i v w') (mono2 : ∀ i v b w w', sp i v w → w0.heap.size ≤ b → Wrote b vals T w w' → sp i v w')
    (hop : LitOk P Q l.toArray d sp A S T zs vals a0 w0 l 0)
    (hend : ∀ (a : Act) (w : World) (b : Nat), Below w0.heap.size w0 w → (∀ i, i < l.length → i ≠ A → i ≠ S → sp i (a.tmps.getD (d i) undef) w) → (∀ k, outL l.toArray d S k = true → a.tmps.getD k undef = a0.tmps.getD k undef) →
      a.tmps.getD (d A) undef = .pointer (some ⟨b, 0, none⟩) → w0.heap.size ≤ b → w.heap[b]? = some (.cells vals T (0, 0)) → a.tmps.size = a0.tmps.size → a.defers = a0.defers → Q .normal a w) :
    (Code.region id l.toArray true).wp P Q a0 w0 := by
  refine wp_region_any hm ?_
  have hd0 : Below w0.heap.size w0 { w0 with drawn := w0.drawn + 1 } := (Below.refl _ _).drew
  have hll : l.toArray.size = l.length := by simp
  have hspec := litB_spec hp
  refine wpAny_of_inv (LitInv l.toArray d sp A S T zs.size vals a0 w0) (fun _ _ _ h => h.ls) ?_ ?_ _ _ _ _ ?_ ?_
  · intro listed a w i h hi
    obtain ⟨h1, o, hoi, hdeps⟩ := mem_ready.1 hi
    have hilt : i < l.toArray.size := (Array.getElem?_eq_some_iff.1 hoi).1
    have hilt' : i < l.length := by omega
    have hli : listed.getD i false = false := by
      have : i < listed.size := by rw [h.ls]; exact hilt
      simp only [Array.getD_eq_getD_getElem?, Array.getElem?_eq_getElem this, Option.getD_some] at h1 ⊢
      exact h1
    obtain ⟨e1, e2, e3⟩ := hspec i o hoi
    unfold wpOp
    simp only [hoi]
    have hw : Region.wanted o (yielded l.toArray a.tmps) = true := by simp [Region.wanted, e1]
    rw [if_pos hw]
    have hks : ∀ k, outL l.toArray d S k = true → a.tmps.getD k undef = a0.tmps.getD k undef := fun k hk => h.ks k fun j hj hjS => by
      have hjl : j < l.toArray.size := by rw [← h.ls]; exact listed_lt hj
      unfold outL at hk
      rw [List.all_eq_true] at hk
      have := hk j (List.mem_range.2 hjl)
      simp only [Bool.or_eq_true, decide_eq_true_eq] at this
      exact this.resolve_left hjS
    have hdp : ∀ e ∈ o.after, Region.binds .any e = true → e.on ≠ A → e.on ≠ S → sp e.on (a.tmps.getD (d e.on) undef) w := fun e he hb hA' hS' => h.vs _ (hdeps e he hb) hA' hS'
    refine .inl (litOk_at l 0 i o hop (by simpa using hoi) a w _ h.bel hdp hks ?_)
    rw [Nat.zero_add]
    by_cases hiA : i = A
    · rw [if_pos hiA]
      subst hiA
      obtain ⟨_, f1, f2⟩ := e3 hAS
      have hnS : listed.getD S false ≠ true := fun k => by rw [h.sa k] at hli; cases hli
      refine ⟨by simpa using h.ls, h.bel.alloc h.bel.size _, by simpa [Act.put] using h.sz, by simpa [Act.put] using h.df, fun j hj hjA hjS => ?_, fun k hk => ?_, fun _ => ?_, fun k => ?_⟩
      · rw [listed_ne hjA] at hj
        have hjl : j < l.toArray.size := by rw [← h.ls]; exact listed_lt hj
        rw [getD_put _ _ _ _ (by rw [h.sz]; exact f1), if_neg (fun k => f2 j hjl hjS (Ne.symm hjA) k.symm)]
        exact mono _ _ _ _ (h.vs j hj hjA hjS) ((Below.refl _ _).alloc (Nat.le_refl _) _)
      · have hne : k ≠ d i := fun q => hk i (listed_self (by rw [h.ls]; exact hilt)) hAS q.symm
        rw [getD_put _ _ _ _ (by rw [h.sz]; exact f1), if_neg hne]
        exact h.ks k fun j hj hjS => hk j (by
          by_cases hji : j = i
          · subst hji; exact listed_self (by rw [h.ls]; exact hilt)
          · rw [listed_ne hji]; exact hj) hjS
      · refine ⟨w.heap.size, zs, by rw [getD_put _ _ _ _ (by rw [h.sz]; exact f1), if_pos rfl], h.bel.size, heap_alloc_new w _, rfl, fun k => ?_⟩
        rw [listed_ne (Ne.symm hAS)] at k
        exact absurd k hnS
      · rw [listed_ne (Ne.symm hAS)] at k
        exact absurd k hnS
    · rw [if_neg hiA]
      by_cases hiS : i = S
      · rw [if_pos hiS]
        subst hiS
        obtain ⟨oj, hoj, e, he, hb, hon⟩ := Region.waitsFor_spec hSA
        obtain rfl : oj = o := by rw [hoi] at hoj; exact (Option.some.inj hoj).symm
        have hlA : listed.getD A false = true := by rw [← hon]; exact hdeps e he hb
        obtain ⟨b, cs, g1, g2, g3, g4, g5⟩ := h.va hlA
        refine ⟨b, cs, g1, g3, g4, fun w' hw' => ?_⟩
        refine ⟨by simpa using h.ls, h.bel.trans (hw'.below.mono g2), h.sz, h.df, fun j hj hjA hjS => ?_, fun k hk => ?_, fun _ => ?_, fun _ => ?_⟩
        · rw [listed_ne hjS] at hj
          exact mono2 _ _ _ _ _ (h.vs j hj hjA hjS) g2 hw'
        · exact h.ks k fun j hj hjS => hk j (by rw [listed_ne hjS]; exact hj) hjS
        · exact ⟨b, vals, g1, g2, hw'.at_, hv, fun _ => rfl⟩
        · rw [listed_ne (Ne.symm hiA)]; exact hlA
      · rw [if_neg hiS]
        obtain ⟨f0, f1, f2⟩ := e3 hiS
        intro v w' hv' hbw
        refine ⟨by simpa using h.ls, h.bel.trans (hbw.mono h.bel.size), by simpa [Act.put] using h.sz, by simpa [Act.put] using h.df, fun j hj hjA hjS => ?_, fun k hk => ?_, fun k => ?_, fun k => ?_⟩
        · by_cases hji : j = i
          · subst hji
            rw [getD_put _ _ _ _ (by rw [h.sz]; exact f1), if_pos rfl]; exact hv'
          · rw [listed_ne hji] at hj
            have hjl : j < l.toArray.size := by rw [← h.ls]; exact listed_lt hj
            rw [getD_put _ _ _ _ (by rw [h.sz]; exact f1), if_neg (fun k => f2 j hjl hjS (Ne.symm hji) k.symm)]
            exact mono _ _ _ _ (h.vs j hj hjA hjS) hbw
        · have hne : k ≠ d i := fun q => hk i (listed_self (by rw [h.ls]; exact hilt)) hiS q.symm
          rw [getD_put _ _ _ _ (by rw [h.sz]; exact f1), if_neg hne]
          exact h.ks k fun j hj hjS => hk j (by
            by_cases hji : j = i
            · subst hji; exact listed_self (by rw [h.ls]; exact hilt)
            · rw [listed_ne hji]; exact hj) hjS
        · rw [listed_ne (Ne.symm hiA)] at k
          obtain ⟨b, cs, g1, g2, g3, g4, g5⟩ := h.va k
          refine ⟨b, cs, ?_, g2, ?_, g4, fun q => ?_⟩
          · rw [getD_put _ _ _ _ (by rw [h.sz]; exact f1), if_neg (fun q => f2 A (by omega) hAS hiA q.symm)]; exact g1
          · have hlt : b < w.heap.size := by
              rcases Nat.lt_or_ge b w.heap.size with q | q
              · exact q
              · rw [Array.getElem?_eq_none q] at g3; cases g3
            rw [hbw.block b hlt]; exact g3
          · rw [listed_ne (Ne.symm hiS)] at q; exact g5 q
        · rw [listed_ne (Ne.symm hiS)] at k
          rw [listed_ne (Ne.symm hiA)]; exact h.sa k
  · intro listed a w h hr
    have hl := all_listed ho listed hr h.ls
    obtain ⟨b, cs, g1, g2, g3, g4, g5⟩ := h.va (hl A (by omega))
    have := g5 (hl S (by omega))
    subst this
    refine hend a w b h.bel (fun i hi hiA hiS => h.vs i (hl i (by omega)) hiA hiS) (fun k hk => h.ks k fun j hj hjS => ?_) g1 g2 g3 h.sz h.df
    have hjl : j < l.toArray.size := by rw [← h.ls]; exact listed_lt hj
    unfold outL at hk
    rw [List.all_eq_true] at hk
    have := hk j (List.mem_range.2 hjl)
    simp only [Bool.or_eq_true, decide_eq_true_eq] at this
    exact this.resolve_left hjS
  · unfold left
    exact Nat.le_trans (List.countP_le_length) (by simp)
  · have hf : ∀ i, (Array.replicate l.toArray.size false).getD i false = true → False := fun i hi => by
      simp only [Array.getD_eq_getD_getElem?, Array.getElem?_replicate] at hi
      split at hi <;> simp at hi
    exact ⟨by simp, hd0, rfl, rfl, fun i hi => absurd hi (fun k => hf i k), fun k _ => rfl, fun k => absurd k (fun q => hf _ q), fun k => absurd k (fun q => hf _ q)⟩

/-- A frame, written out. -/
theorem arr_out (xs : Array Value) (n : Nat) (h : xs.size = n) : xs = ((List.range n).map fun k => xs.getD k undef).toArray := by
  apply Array.ext
  · simp [h]
  · intro i h1 h2
    simp [Array.getD_eq_getD_getElem?, h1]
end
end Go.Proofs.Ytlgfogllkoabpaa.QMacP

/-
  Two laws on a region that draws its order: one whose operations keep a relation of one's own; one in which one operation writes, and a last one closes it.
-/
namespace Go.Proofs.Ytlgfogllkoabpaa.QMacP
open Go.RowKit
set_option linter.unusedVariables false

section
variable {P : Program} {ops : Array Oper} {Q : Exit → Act → World → Prop}

/-- What is asked of the operations, one by one, over a relation. -/
def RelOk (P : Program) (Q : Exit → Act → World → Prop) (R : World → World → Prop) (ops : Array Oper) (d : Nat → Nat) (sp : Nat → Value → World → Prop) (a0 : Act) (w0 : World) : List Oper → Nat → Prop
  | [], _ => True
  | o :: rest, i => (∀ (a : Act) (w : World) (K : Act → World → Prop), R w0 w → (∀ e ∈ o.after, Region.binds .any e = true → sp e.on (a.tmps.getD (d e.on) undef) w) →
      (∀ k, outB ops d k = true → a.tmps.getD k undef = a0.tmps.getD k undef) →
      (∀ v w', sp i v w' → R w w' → K (a.put (some (d i)) v) w') → Oper.wp P o a w K Q) ∧ RelOk P Q R ops d sp a0 w0 rest (i + 1)
theorem relOk_at {R : World → World → Prop} {d : Nat → Nat} {sp : Nat → Value → World → Prop} {a0 : Act} {w0 : World} : ∀ (l : List Oper) (n i : Nat) (o : Oper), RelOk P Q R ops d sp a0 w0 l n → l[i]? = some o →
    ∀ (a : Act) (w : World) (K : Act → World → Prop), R w0 w → (∀ e ∈ o.after, Region.binds .any e = true → sp e.on (a.tmps.getD (d e.on) undef) w) →
      (∀ k, outB ops d k = true → a.tmps.getD k undef = a0.tmps.getD k undef) →
      (∀ v w', sp (n + i) v w' → R w w' → K (a.put (some (d (n + i))) v) w') → Oper.wp P o a w K Q
  | [], n, i, o, _, h => by simp at h
  | p :: rest, n, 0, o, hk, h => by
    obtain rfl : p = o := by simpa using h
    exact hk.1
  | p :: rest, n, i + 1, o, hk, h => by
    have := relOk_at rest (n + 1) i o hk.2 (by simpa using h)
    rw [show n + 1 + i = n + (i + 1) by omega] at this
    exact this

theorem wp_region_rel {id : Nat} {l : List Oper} {a0 : Act} {w0 : World} (hm : P.follows .mixedOrders = true) (R : World → World → Prop) (htrans : ∀ {x y z}, R x y → R y z → R x z) (hdrew : ∀ w : World, R w { w with drawn := w.drawn + 1 })
    (d : Nat → Nat) (hp : plainB l.toArray d a0.tmps.size = true) (ho : orderB l.toArray = true)
    (sp : Nat → Value → World → Prop) (mono : ∀ i v w w', sp i v w → R w w' → sp i v w')
    (hop : RelOk P Q R l.toArray d sp a0 w0 l 0)
    (hend : ∀ (a : Act) (w : World), R w0 w → (∀ i, i < l.length → sp i (a.tmps.getD (d i) undef) w) → (∀ k, outB l.toArray d k = true → a.tmps.getD k undef = a0.tmps.getD k undef) →
      a.tmps.size = a0.tmps.size → a.defers = a0.defers → Q .normal a w) :
    (Code.region id l.toArray true).wp P Q a0 w0 := by
  have hout : ∀ k, outB l.toArray d k = true → ∀ j, j < l.toArray.size → d j ≠ k := fun k hk j hj => by
    unfold outB at hk
    rw [List.all_eq_true] at hk
    exact of_decide_eq_true (hk j (List.mem_range.2 hj))
  refine wp_region_any hm ?_
  refine wpAny_of_inv (fun listed a w => listed.size = l.toArray.size ∧ R w0 w ∧ a.tmps.size = a0.tmps.size ∧ a.defers = a0.defers ∧ (∀ i, listed.getD i false = true → sp i (a.tmps.getD (d i) undef) w) ∧
    (∀ k, (∀ j, listed.getD j false = true → d j ≠ k) → a.tmps.getD k undef = a0.tmps.getD k undef)) (fun _ _ _ h => h.1) ?_ ?_ _ _ _ _ ?_ ?_
  · rintro listed a w i ⟨hs, hb, hn, hdf, hsp, hk⟩ hi
    obtain ⟨h1, o, ho, hdeps⟩ := mem_ready.1 hi
    obtain ⟨e1, e2, e3, e4⟩ := plainB_spec hp i o ho
    have hilt : i < l.toArray.size := (Array.getElem?_eq_some_iff.1 ho).1
    have hlist : ∀ j, listed.getD j false = true → j < l.toArray.size := fun j hj => by rw [← hs]; exact listed_lt hj
    unfold wpOp
    simp only [ho]
    have hw : Region.wanted o (yielded l.toArray a.tmps) = true := by simp [Region.wanted, e2]
    rw [if_pos hw]
    refine .inl (relOk_at l 0 i o hop (by simpa using ho) a w _ hb (fun e he hbn => hsp _ (hdeps e he hbn)) (fun k hkk => hk k (fun j hj => hout k hkk j (hlist j hj))) ?_)
    rw [Nat.zero_add]
    intro v w' hv hbw
    refine ⟨by simpa using hs, htrans hb hbw, by simpa [Act.put] using hn, by simpa [Act.put] using hdf, fun j hj => ?_, fun k hkk => ?_⟩
    · rw [getD_put _ _ _ _ (by omega)]
      by_cases hji : j = i
      · subst hji; rw [if_pos rfl]; exact hv
      · rw [listed_ne hji] at hj
        rw [if_neg (fun h => e4 j (hlist j hj) (Ne.symm hji) h.symm)]
        exact mono _ _ _ _ (hsp j hj) hbw
    · have hne : k ≠ d i := fun h => hkk i (listed_self (by omega)) h.symm
      rw [getD_put _ _ _ _ (by omega), if_neg hne]
      refine hk k fun j hj => hkk j ?_
      by_cases hji : j = i
      · subst hji; exact listed_self (by omega)
      · rw [listed_ne hji]; exact hj
  · rintro listed a w ⟨hs, hb, hn, hdf, hsp, hk⟩ hr
    have hl := all_listed ho listed hr hs
    exact hend a w hb (fun i hi => hsp i (hl i (by simpa using hi))) (fun k hkk => hk k fun j hj => hout k hkk j (by rw [← hs]; exact listed_lt hj)) hn hdf
  · unfold left
    exact Nat.le_trans (List.countP_le_length) (by simp)
  · refine ⟨by simp, hdrew w0, rfl, rfl, fun i hi => ?_, fun k _ => rfl⟩
    exfalso
    simp only [Array.getD_eq_getD_getElem?, Array.getElem?_replicate] at hi
    split at hi <;> simp at hi

/-- Each operation ahead of S is wanted by a later one. -/
def closedB (ops : Array Oper) (S : Nat) : Bool := (List.range S).all fun i => (List.range ops.size).any fun j => decide (i < j) && ((ops[j]?).map fun o => o.after.any fun e => decide (e.on = i) && Region.binds .any e).getD false
theorem closedB_spec {S : Nat} (h : closedB ops S = true) (i : Nat) (hi : i < S) : ∃ j o, i < j ∧ ops[j]? = some o ∧ ∃ e ∈ o.after, e.on = i ∧ Region.binds .any e = true := by
  unfold closedB at h
  rw [List.all_eq_true] at h
  have h1 := h i (List.mem_range.2 hi)
  rw [List.any_eq_true] at h1
  obtain ⟨j, _, h2⟩ := h1
  rw [Bool.and_eq_true, decide_eq_true_eq] at h2
  obtain ⟨hij, h3⟩ := h2
  cases ho : ops[j]? with
  | none => rw [ho] at h3; simp at h3
  | some o =>
    rw [ho] at h3
    simp only [Option.map_some, Option.getD_some] at h3
    rw [Array.any_eq_true] at h3
    obtain ⟨x, hx, h4⟩ := h3
    rw [Bool.and_eq_true, decide_eq_true_eq] at h4
    exact ⟨j, o, hij, ho, o.after[x], Array.getElem_mem hx, h4⟩

/-- What is asked of the operations, one by one: m writes, S is the last one. -/
def TailOk (P : Program) (Q : Exit → Act → World → Prop) (R : World → Prop) (M : World → World → Prop) (ops : Array Oper) (d : Nat → Nat) (sp : Nat → Value → World → Prop) (m S : Nat) (a0 : Act) (w0 : World) : List Oper → Nat → Prop
  | [], _ => True
  | o :: rest, i => (∀ (a : Act) (w : World) (K : Act → World → Prop), R w → (i = m → Below w0.heap.size w0 w) → (∀ e ∈ o.after, Region.binds .any e = true → e.on ≠ S → sp e.on (a.tmps.getD (d e.on) undef) w) →
      (∀ k, outL ops d S k = true → a.tmps.getD k undef = a0.tmps.getD k undef) →
      (if i = S then (∀ w', (∀ j, j < S → sp j (a.tmps.getD (d j) undef) w) → a.tmps.size = a0.tmps.size → a.defers = a0.defers → Q .normal a w' → K a w')
       else if i = m then ∀ v w', sp i v w' → M w w' → K (a.put (some (d i)) v) w'
       else ∀ v w', sp i v w' → Below w.heap.size w w' → K (a.put (some (d i)) v) w') →
      (i = S → (∀ j, j < S → sp j (a.tmps.getD (d j) undef) w) ∧ a.tmps.size = a0.tmps.size ∧ a.defers = a0.defers) → Oper.wp P o a w K Q) ∧ TailOk P Q R M ops d sp m S a0 w0 rest (i + 1)
theorem tailOk_at {R : World → Prop} {M : World → World → Prop} {d : Nat → Nat} {sp : Nat → Value → World → Prop} {m S : Nat} {a0 : Act} {w0 : World} : ∀ (l : List Oper) (n i : Nat) (o : Oper), TailOk P Q R M ops d sp m S a0 w0 l n → l[i]? = some o →
    ∀ (a : Act) (w : World) (K : Act → World → Prop), R w → (n + i = m → Below w0.heap.size w0 w) → (∀ e ∈ o.after, Region.binds .any e = true → e.on ≠ S → sp e.on (a.tmps.getD (d e.on) undef) w) →
      (∀ k, outL ops d S k = true → a.tmps.getD k undef = a0.tmps.getD k undef) →
      (if n + i = S then (∀ w', (∀ j, j < S → sp j (a.tmps.getD (d j) undef) w) → a.tmps.size = a0.tmps.size → a.defers = a0.defers → Q .normal a w' → K a w')
       else if n + i = m then ∀ v w', sp (n + i) v w' → M w w' → K (a.put (some (d (n + i))) v) w'
       else ∀ v w', sp (n + i) v w' → Below w.heap.size w w' → K (a.put (some (d (n + i))) v) w') →
      (n + i = S → (∀ j, j < S → sp j (a.tmps.getD (d j) undef) w) ∧ a.tmps.size = a0.tmps.size ∧ a.defers = a0.defers) → Oper.wp P o a w K Q
  | [], n, i, o, _, h => by simp at h
  | p :: rest, n, 0, o, hk, h => by
    obtain rfl : p = o := by simpa using h
    exact hk.1
  | p :: rest, n, i + 1, o, hk, h => by
    have := tailOk_at rest (n + 1) i o hk.2 (by simpa using h)
    rw [show n + 1 + i = n + (i + 1) by omega] at this
    exact this

structure TailInv (ops : Array Oper) (R : World → Prop) (d : Nat → Nat) (sp : Nat → Value → World → Prop) (m S : Nat) (a0 : Act) (w0 : World) (listed : Array Bool) (a : Act) (w : World) : Prop where
  ls : listed.size = ops.size
  r : R w
  bel : listed.getD m false = false → Below w0.heap.size w0 w
  sz : a.tmps.size = a0.tmps.size
  df : a.defers = a0.defers
  vs : ∀ i, listed.getD i false = true → sp i (a.tmps.getD (d i) undef) w
  ks : ∀ k, (∀ j, listed.getD j false = true → d j ≠ k) → a.tmps.getD k undef = a0.tmps.getD k undef
  dn : ∀ j o, listed.getD j false = true → ops[j]? = some o → ∀ e ∈ o.after, Region.binds .any e = true → listed.getD e.on false = true
  ns : listed.getD S false = false

/-- Operation m writes (M), the last one, S, closes; each other one only makes memory. -/
theorem wp_region_tail {id : Nat} {l : List Oper} {a0 : Act} {w0 : World} (hm : P.follows .mixedOrders = true) (d : Nat → Nat) (m S : Nat) (hmS : m < S) (hS : l.length = S + 1)
    (hp : litB l.toArray d S a0.tmps.size = true) (ho : orderB l.toArray = true) (hc : closedB l.toArray S = true)
    (R : World → Prop) (M : World → World → Prop) (hR0 : ∀ w, Below w0.heap.size w0 w → R w) (hRB : ∀ w w', R w → Below w.heap.size w w' → R w') (hRM : ∀ w w', Below w0.heap.size w0 w → M w w' → R w')
    (sp : Nat → Value → World → Prop) (mono : ∀ i v w w', sp i v w → Below w.heap.size w w' → sp i v w') (monoM : ∀ i v w w', i ≠ m → sp i v w → Below w0.heap.size w0 w → M w w' → sp i v w')
    (hop : TailOk P Q R M l.toArray d sp m S a0 w0 l 0) :
    (Code.region id l.toArray true).wp P Q a0 w0 := by
  refine wp_region_any hm ?_
  have hd0 : Below w0.heap.size w0 { w0 with drawn := w0.drawn + 1 } := (Below.refl _ _).drew
  have hll : l.toArray.size = S + 1 := by simpa using hS
  have hspec := litB_spec hp
  refine wpAny_of_inv (fun listed a w => if listed.getD S false = true then listed.size = l.toArray.size ∧ (∀ i, i < l.toArray.size → listed.getD i false = true) ∧ Q .normal a w else TailInv l.toArray R d sp m S a0 w0 listed a w) (fun _ _ _ h => ?_) ?_ ?_ _ _ _ _ ?_ ?_
  · split at h
    · exact h.1
    · exact h.ls
  · intro listed a w i h hi
    obtain ⟨h1, o, hoi, hdeps⟩ := mem_ready.1 hi
    have hilt : i < l.toArray.size := (Array.getElem?_eq_some_iff.1 hoi).1
    by_cases hLS : listed.getD S false = true
    · rw [if_pos hLS] at h
      obtain ⟨q1, q2, _⟩ := h
      have := q2 i hilt
      have hlt : i < listed.size := by omega
      simp only [Array.getD_eq_getD_getElem?, Array.getElem?_eq_getElem hlt, Option.getD_some] at h1 this
      rw [h1] at this; cases this
    rw [if_neg hLS] at h
    have hli : listed.getD i false = false := by
      have : i < listed.size := by rw [h.ls]; exact hilt
      simp only [Array.getD_eq_getD_getElem?, Array.getElem?_eq_getElem this, Option.getD_some] at h1 ⊢
      exact h1
    obtain ⟨e1, e2, e3⟩ := hspec i o hoi
    unfold wpOp
    simp only [hoi]
    have hw : Region.wanted o (yielded l.toArray a.tmps) = true := by simp [Region.wanted, e1]
    rw [if_pos hw]
    have hlist : ∀ j, listed.getD j false = true → j < l.toArray.size := fun j hj => by rw [← h.ls]; exact listed_lt hj
    have hks : ∀ k, outL l.toArray d S k = true → a.tmps.getD k undef = a0.tmps.getD k undef := fun k hk => h.ks k fun j hj => by
      have hjl := hlist j hj
      have hjS : j ≠ S := fun e => by subst e; exact hLS hj
      unfold outL at hk
      rw [List.all_eq_true] at hk
      have := hk j (List.mem_range.2 hjl)
      simp only [Bool.or_eq_true, decide_eq_true_eq] at this
      exact this.resolve_left hjS
    have hall : i = S → ∀ j, j < S → listed.getD j false = true := by
      intro hiS
      subst hiS
      have key : ∀ n j, i - j ≤ n → j < i → listed.getD j false = true := by
        intro n
        induction n with
        | zero => intro j h1 h2; omega
        | succ n ih =>
          intro j h1 h2
          obtain ⟨j', o', hjj, hoj, e, he, hon, hb⟩ := closedB_spec hc j h2
          have hj'l : j' < l.toArray.size := (Array.getElem?_eq_some_iff.1 hoj).1
          rw [← hon]
          rcases Nat.lt_or_ge j' i with hlt | hge
          · exact h.dn j' o' (ih j' (by omega) hlt) hoj e he hb
          · obtain rfl : j' = i := by omega
            obtain rfl : o' = o := by rw [hoi] at hoj; exact (Option.some.inj hoj).symm
            exact hdeps e he hb
      exact fun j hj => key i j (by omega) hj
    refine .inl (tailOk_at l 0 i o hop (by simpa using hoi) a w _ h.r (fun him => h.bel (by rw [Nat.zero_add] at him; rw [← him]; exact hli)) (fun e he hb hS' => h.vs _ (hdeps e he hb)) hks ?_ (fun hiS => ⟨fun j hj => h.vs j (hall (by omega) j hj), h.sz, h.df⟩))
    rw [Nat.zero_add]
    by_cases hiS : i = S
    · rw [if_pos hiS]
      intro w' _ _ _ hQ
      have hSl : (listed.setIfInBounds i true).getD S false = true := by rw [← hiS]; exact listed_self (by rw [h.ls]; exact hilt)
      rw [if_pos hSl]
      refine ⟨by simpa using h.ls, fun j hj => ?_, hQ⟩
      by_cases hji : j = i
      · subst hji; exact listed_self (by rw [h.ls]; exact hilt)
      · rw [listed_ne hji]; exact hall hiS j (by omega)
    · rw [if_neg hiS]
      obtain ⟨f0, f1, f2⟩ := e3 hiS
      have hnS : (listed.setIfInBounds i true).getD S false = false := by rw [listed_ne (Ne.symm hiS)]; exact h.ns
      have common : ∀ (v : Value) (w' : World), sp i v w' → R w' → (i ≠ m → listed.getD m false = false → Below w0.heap.size w0 w') → (∀ j, listed.getD j false = true → sp j (a.tmps.getD (d j) undef) w') → TailInv l.toArray R d sp m S a0 w0 (listed.setIfInBounds i true) (a.put (some (d i)) v) w' := by
        intro v w' hv hR hB hvs
        refine ⟨by simpa using h.ls, hR, fun hmm => ?_, by simpa [Act.put] using h.sz, by simpa [Act.put] using h.df, fun j hj => ?_, fun k hk => ?_, fun j o' hj hoj e he hb => ?_, hnS⟩
        · by_cases him : i = m
          · subst him; rw [listed_self (by rw [h.ls]; exact hilt)] at hmm; cases hmm
          · rw [listed_ne (Ne.symm him)] at hmm; exact hB him hmm
        · by_cases hji : j = i
          · subst hji
            rw [getD_put _ _ _ _ (by rw [h.sz]; exact f1), if_pos rfl]; exact hv
          · rw [listed_ne hji] at hj
            have hjS : j ≠ S := fun e => by subst e; exact hLS hj
            rw [getD_put _ _ _ _ (by rw [h.sz]; exact f1), if_neg (fun k => f2 j (hlist j hj) hjS (Ne.symm hji) k.symm)]
            exact hvs j hj
        · have hne : k ≠ d i := fun q => hk i (listed_self (by rw [h.ls]; exact hilt)) q.symm
          rw [getD_put _ _ _ _ (by rw [h.sz]; exact f1), if_neg hne]
          exact h.ks k fun j hj => hk j (by
            by_cases hji : j = i
            · subst hji; exact listed_self (by rw [h.ls]; exact hilt)
            · rw [listed_ne hji]; exact hj)
        · have hle : listed.getD e.on false = true → (listed.setIfInBounds i true).getD e.on false = true := fun q => by
            by_cases hei : e.on = i
            · rw [hei]; exact listed_self (by rw [h.ls]; exact hilt)
            · rw [listed_ne hei]; exact q
          by_cases hji : j = i
          · subst hji
            obtain rfl : o' = o := by rw [hoi] at hoj; exact (Option.some.inj hoj).symm
            exact hle (hdeps e he hb)
          · rw [listed_ne hji] at hj
            exact hle (h.dn j o' hj hoj e he hb)
      by_cases him : i = m
      · rw [if_pos him]
        intro v w' hv hM
        rw [if_neg (by rw [hnS]; simp)]
        have hbel := h.bel (by rw [← him]; exact hli)
        refine common v w' hv (hRM _ _ hbel hM) (fun q => absurd him q) fun j hj => monoM _ _ _ _ (fun q => ?_) (h.vs j hj) hbel hM
        subst q; rw [him] at hli; rw [hli] at hj; cases hj
      · rw [if_neg him]
        intro v w' hv hbw
        rw [if_neg (by rw [hnS]; simp)]
        exact common v w' hv (hRB _ _ h.r hbw) (fun _ hmm => (h.bel hmm).trans (hbw.mono (h.bel hmm).size)) fun j hj => mono _ _ _ _ (h.vs j hj) hbw
  · intro listed a w h hr
    by_cases hLS : listed.getD S false = true
    · rw [if_pos hLS] at h; exact h.2.2
    · rw [if_neg hLS] at h
      exact absurd (all_listed ho listed hr h.ls S (by omega)) hLS
  · unfold left
    exact Nat.le_trans (List.countP_le_length) (by simp)
  · have hf : ∀ i, (Array.replicate l.toArray.size false).getD i false = true → False := fun i hi => by
      simp only [Array.getD_eq_getD_getElem?, Array.getElem?_replicate] at hi
      split at hi <;> simp at hi
    rw [if_neg (fun q => hf _ q)]
    refine ⟨by simp, hR0 _ hd0, fun _ => hd0, rfl, rfl, fun i hi => absurd hi (fun k => hf i k), fun k _ => rfl, fun j o hj => absurd hj (fun k => hf _ k), ?_⟩
    cases hq : (Array.replicate l.toArray.size false).getD S false
    · rfl
    · exact absurd hq (fun k => hf _ k)
end
end Go.Proofs.Ytlgfogllkoabpaa.QMacP
