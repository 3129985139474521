/-
  A region that draws its order, whose operations read, or make memory, and change none: walked once, an operation at a time, in whatever order they come.
-/
import Derived.Orders
import Derived.Below
namespace Go.Proofs.Ytgcmklliafcffaa.MacP
open Go.RowKit
set_option linter.unusedVariables false

theorem countP_le (p q : Nat → Bool) (l : List Nat) (hpq : ∀ j, q j = true → p j = true) : l.countP q ≤ l.countP p := by
  induction l with
  | nil => simp
  | cons a l ih =>
    rw [List.countP_cons, List.countP_cons]
    by_cases h : q a = true
    · rw [if_pos h, if_pos (hpq a h)]; omega
    · rw [if_neg h]; omega
theorem countP_lt (p q : Nat → Bool) (l : List Nat) (hpq : ∀ j, q j = true → p j = true) (i : Nat) (hi : i ∈ l) (hp : p i = true) (hq : q i = false) : l.countP q < l.countP p := by
  induction l with
  | nil => cases hi
  | cons a l ih =>
    rw [List.countP_cons, List.countP_cons]
    rcases List.mem_cons.1 hi with rfl | h
    · rw [if_pos hp, hq]
      have := countP_le p q l hpq
      simp; omega
    · have := ih h
      by_cases h : q a = true
      · rw [if_pos h, if_pos (hpq a h)]; omega
      · rw [if_neg h]; omega

section
variable {P : Program} {ops : Array Oper} {Q : Exit → Act → World → Prop}

def left (ops : Array Oper) (listed : Array Bool) : Nat := (List.range ops.size).countP fun i => !listed.getD i true
theorem left_zero {listed : Array Bool} (h : left ops listed = 0) : Region.ready .any ops listed = [] := by
  unfold Region.ready
  rw [List.filter_eq_nil_iff]
  intro i hi
  unfold left at h
  rw [List.countP_eq_zero] at h
  have h1 := h i hi
  have h2 : listed.getD i true = true := by simpa using h1
  simp [h2, -Array.getD_eq_getD_getElem?]
theorem left_set {listed : Array Bool} {i : Nat} (hs : listed.size = ops.size) (hi : i < ops.size) (h : listed.getD i true = false) : left ops (listed.setIfInBounds i true) < left ops listed := by
  refine countP_lt _ _ _ (fun j hj => ?_) i (List.mem_range.2 hi) (by simp [h]) ?_
  · by_cases hji : j = i
    · subst hji; simp [hs, hi] at hj
    · simp only [Array.getD_eq_getD_getElem?, Array.getElem?_setIfInBounds_ne (Ne.symm hji)] at hj
      simpa [Array.getD_eq_getD_getElem?] using hj
  · simp [hs, hi]

/-- A region by an invariant on what has come up, the frame and the world. -/
theorem wpAny_of_inv (Inv : Array Bool → Act → World → Prop) (hsz : ∀ listed a w, Inv listed a w → listed.size = ops.size)
    (hstep : ∀ listed a w i, Inv listed a w → i ∈ Region.ready .any ops listed → wpOp P ops Q i (Inv (listed.setIfInBounds i true)) a w)
    (hend : ∀ listed a w, Inv listed a w → Region.ready .any ops listed = [] → Q .normal a w) :
    ∀ (fuel : Nat) (listed : Array Bool) (a : Act) (w : World), left ops listed ≤ fuel → Inv listed a w → wpAny P .any ops Q fuel listed a w
  | 0, listed, a, w, hl, h => by
    have hr := left_zero (ops := ops) (listed := listed) (by omega)
    exact ⟨hr, hend listed a w h hr⟩
  | fuel + 1, listed, a, w, hl, h => by
    refine ⟨hend listed a w h, fun i hi => ?_⟩
    refine wpOp_mono (fun a' w' h' => ?_) (hstep listed a w i h hi)
    refine wpAny_of_inv Inv hsz hstep hend fuel _ a' w' ?_ h'
    obtain ⟨h1, o, ho, _⟩ := mem_ready.1 hi
    have := left_set (ops := ops) (hsz _ _ _ h) (Array.getElem?_eq_some_iff.1 ho).1 h1
    omega

/-- What is asked of each operation: it has no guard, and writes slot 'd i'. -/
def plainB (ops : Array Oper) (d : Nat → Nat) (n : Nat) : Bool :=
  (List.range ops.size).all fun i => ((ops[i]?).map fun o => o.dst == some (d i) && o.guard.isNone).getD false && decide (d i < n) && (List.range ops.size).all fun j => decide (i = j) || decide (d i ≠ d j)

theorem plainB_spec {d : Nat → Nat} {n : Nat} (h : plainB ops d n = true) : ∀ i o, ops[i]? = some o → o.dst = some (d i) ∧ o.guard = none ∧ d i < n ∧ ∀ j, j < ops.size → i ≠ j → d i ≠ d j := by
  intro i o ho
  have hi : i < ops.size := (Array.getElem?_eq_some_iff.1 ho).1
  unfold plainB at h
  rw [List.all_eq_true] at h
  have h1 := h i (List.mem_range.2 hi)
  simp only [ho, Option.map_some, Option.getD_some, Bool.and_eq_true, beq_iff_eq, Option.isNone_iff_eq_none, decide_eq_true_eq, List.all_eq_true, List.mem_range, Bool.or_eq_true] at h1
  obtain ⟨⟨⟨a, b⟩, c⟩, e⟩ := h1
  exact ⟨a, b, c, fun j hj hne => (e j hj).resolve_left hne⟩

/-- Each operation waits for earlier ones alone. -/
def orderB (ops : Array Oper) : Bool := (List.range ops.size).all fun i => ((ops[i]?).map fun o => o.after.all fun e => !Region.binds .any e || decide (e.on < i)).getD false
theorem all_listed (h : orderB ops = true) (listed : Array Bool) (hr : Region.ready .any ops listed = []) (hs : listed.size = ops.size) : ∀ i, i < ops.size → listed.getD i false = true := by
  intro i
  induction i using Nat.strongRecOn with
  | ind i ih =>
    intro hi
    cases hl : listed.getD i false
    · exfalso
      have ho : ops[i]? = some ops[i] := Array.getElem?_eq_getElem hi
      unfold orderB at h
      rw [List.all_eq_true] at h
      have h1 := h i (List.mem_range.2 hi)
      simp only [ho, Option.map_some, Option.getD_some, Array.all_eq_true_iff_forall_mem, Bool.or_eq_true, decide_eq_true_eq] at h1
      have h2 : ∀ e ∈ ops[i].after, Region.binds .any e = true → e.on < i := fun e he hb => (h1 e he).resolve_left (by rw [hb]; simp)
      have hm : i ∈ Region.ready .any ops listed := mem_ready.2 ⟨by
        simp only [Array.getD_eq_getD_getElem?, Array.getElem?_eq_getElem (show i < listed.size by omega), Option.getD_some] at hl ⊢
        exact hl, ops[i], ho, fun e he hb => ih e.on (h2 e he hb) (Nat.lt_trans (h2 e he hb) hi)⟩
      rw [hr] at hm
      cases hm
    · rfl

/-- Each operation's value meets 'sp i', which stays true as memory is made; a region that draws its order is run an operation at a time. -/
theorem wp_region_mono {id : Nat} {a0 : Act} {w0 : World} (hm : P.follows .mixedOrders = true) (d : Nat → Nat) (hp : plainB ops d a0.tmps.size = true)
    (sp : Nat → Value → World → Prop) (mono : ∀ i v w w', sp i v w → Below w.heap.size w w' → sp i v w')
    (hop : ∀ i o, ops[i]? = some o → ∀ (a : Act) (w : World), Below w0.heap.size w0 w → (∀ e ∈ o.after, Region.binds .any e = true → sp e.on (a.tmps.getD (d e.on) undef) w) →
      (∀ k, (∀ j, j < ops.size → d j ≠ k) → a.tmps.getD k undef = a0.tmps.getD k undef) →
      ∀ K : Act → World → Prop, (∀ v w', sp i v w' → Below w.heap.size w w' → K (a.put (some (d i)) v) w') → Oper.wp P o a w K Q)
    (hend : ∀ (a : Act) (w : World), Below w0.heap.size w0 w → (∀ i, i < ops.size → sp i (a.tmps.getD (d i) undef) w) → (∀ k, (∀ j, j < ops.size → d j ≠ k) → a.tmps.getD k undef = a0.tmps.getD k undef) →
      a.tmps.size = a0.tmps.size → a.defers = a0.defers → Q .normal a w)
    (ho : orderB ops = true) :
    (Code.region id ops true).wp P Q a0 w0 := by
  refine wp_region_any hm ?_
  have hd0 : Below w0.heap.size w0 { w0 with drawn := w0.drawn + 1 } := (Below.refl _ _).drew
  refine wpAny_of_inv (fun listed a w => listed.size = ops.size ∧ Below w0.heap.size w0 w ∧ a.tmps.size = a0.tmps.size ∧ a.defers = a0.defers ∧ (∀ i, listed.getD i false = true → sp i (a.tmps.getD (d i) undef) w) ∧
    (∀ k, (∀ j, listed.getD j false = true → d j ≠ k) → a.tmps.getD k undef = a0.tmps.getD k undef)) (fun _ _ _ h => h.1) ?_ ?_ _ _ _ _ ?_ ?_
  · rintro listed a w i ⟨hs, hb, hn, hdf, hsp, hk⟩ hi
    obtain ⟨h1, o, ho, hdeps⟩ := mem_ready.1 hi
    obtain ⟨e1, e2, e3, e4⟩ := plainB_spec hp i o ho
    have hilt : i < ops.size := (Array.getElem?_eq_some_iff.1 ho).1
    have hlist : ∀ j, listed.getD j false = true → j < ops.size := fun j hj => by
      rcases Nat.lt_or_ge j listed.size with h | h
      · omega
      · simp [Array.getElem?_eq_none h] at hj
    unfold wpOp
    simp only [ho]
    have hw : Region.wanted o (yielded ops a.tmps) = true := by simp [Region.wanted, e2]
    rw [if_pos hw]
    refine .inl (hop i o ho a w hb (fun e he hbn => hsp _ (hdeps e he hbn)) (fun k hkk => hk k (fun j hj => hkk j (hlist j hj))) _ ?_)
    intro v w' hv hbw
    have hget : ∀ k, (a.put (some (d i)) v).tmps.getD k undef = if k = d i then v else a.tmps.getD k undef := fun k => by
      simp only [Act.put, Array.getD_eq_getD_getElem?]
      by_cases hkd : k = d i
      · subst hkd; rw [if_pos rfl, Array.getElem?_setIfInBounds_self_of_lt (by omega)]; rfl
      · rw [if_neg hkd, Array.getElem?_setIfInBounds_ne (Ne.symm hkd)]
    refine ⟨by simpa using hs, hb.trans (hbw.mono hb.size), by simpa [Act.put] using hn, by simpa [Act.put] using hdf, fun j hj => ?_, fun k hkk => ?_⟩
    · rw [hget]
      by_cases hji : j = i
      · subst hji; rw [if_pos rfl]; exact hv
      · have hj' : listed.getD j false = true := by
          simpa [Array.getD_eq_getD_getElem?, Array.getElem?_setIfInBounds_ne (Ne.symm hji)] using hj
        rw [if_neg (fun h => e4 j (hlist j hj') (Ne.symm hji) h.symm)]
        exact mono _ _ _ _ (hsp j hj') hbw
    · rw [hget]
      have hne : k ≠ d i := fun h => hkk i (by simp [Array.getD_eq_getD_getElem?, hs, hilt]) h.symm
      rw [if_neg hne]
      refine hk k fun j hj => hkk j ?_
      by_cases hji : j = i
      · subst hji; simp [Array.getD_eq_getD_getElem?, hs, hilt]
      · simpa [Array.getD_eq_getD_getElem?, Array.getElem?_setIfInBounds_ne (Ne.symm hji)] using hj
  · rintro listed a w ⟨hs, hb, hn, hdf, hsp, hk⟩ hr
    have hl := all_listed ho listed hr hs
    refine hend a w hb (fun i hi => hsp i (hl i hi)) (fun k hkk => hk k fun j hj => hkk j ?_) hn hdf
    rcases Nat.lt_or_ge j listed.size with h | h
    · omega
    · simp [Array.getElem?_eq_none h] at hj
  · unfold left
    exact Nat.le_trans (List.countP_le_length) (by simp)
  · refine ⟨by simp, hd0, rfl, rfl, fun i hi => ?_, fun k _ => rfl⟩
    exfalso
    rcases Nat.lt_or_ge i ops.size with h | h
    · simp [Array.getD_eq_getD_getElem?, h] at hi
    · simp [Array.getD_eq_getD_getElem?, h] at hi
/-- Slot k is written by no operation. -/
def outB (ops : Array Oper) (d : Nat → Nat) (k : Nat) : Bool := (List.range ops.size).all fun j => decide (d j ≠ k)
/-- What is asked of the operations, one by one. -/
def OpsOk (P : Program) (Q : Exit → Act → World → Prop) (ops : Array Oper) (d : Nat → Nat) (sp : Nat → Value → World → Prop) (a0 : Act) (w0 : World) : List Oper → Nat → Prop
  | [], _ => True
  | o :: rest, i => (∀ (a : Act) (w : World) (K : Act → World → Prop), Below w0.heap.size w0 w → (∀ e ∈ o.after, Region.binds .any e = true → sp e.on (a.tmps.getD (d e.on) undef) w) →
      (∀ k, outB ops d k = true → a.tmps.getD k undef = a0.tmps.getD k undef) →
      (∀ v w', sp i v w' → Below w.heap.size w w' → K (a.put (some (d i)) v) w') → Oper.wp P o a w K Q) ∧ OpsOk P Q ops d sp a0 w0 rest (i + 1)
theorem opsOk_at {d : Nat → Nat} {sp : Nat → Value → World → Prop} {a0 : Act} {w0 : World} : ∀ (l : List Oper) (n i : Nat) (o : Oper), OpsOk P Q ops d sp a0 w0 l n → l[i]? = some o →
    ∀ (a : Act) (w : World) (K : Act → World → Prop), Below w0.heap.size w0 w → (∀ e ∈ o.after, Region.binds .any e = true → sp e.on (a.tmps.getD (d e.on) undef) w) →
      (∀ k, outB ops d k = true → a.tmps.getD k undef = a0.tmps.getD k undef) →
      (∀ v w', sp (n + i) v w' → Below w.heap.size w w' → K (a.put (some (d (n + i))) v) w') → Oper.wp P o a w K Q
  | [], n, i, o, _, h => by simp at h
  | p :: rest, n, 0, o, hk, h => by
    obtain rfl : p = o := by simpa using h
    exact hk.1
  | p :: rest, n, i + 1, o, hk, h => by
    have := opsOk_at rest (n + 1) i o hk.2 (by simpa using h)
    rw [show n + 1 + i = n + (i + 1) by omega] at this
    exact this
theorem wp_region_ops {id : Nat} {l : List Oper} {a0 : Act} {w0 : World} (hm : P.follows .mixedOrders = true) (d : Nat → Nat) (hp : plainB l.toArray d a0.tmps.size = true) (ho : orderB l.toArray = true)
    (sp : Nat → Value → World → Prop) (mono : ∀ i v w w', sp i v w → Below w.heap.size w w' → sp i v w')
    (hop : OpsOk P Q l.toArray d sp a0 w0 l 0)
    (hend : ∀ (a : Act) (w : World), Below w0.heap.size w0 w → (∀ i, i < l.length → sp i (a.tmps.getD (d i) undef) w) → (∀ k, outB l.toArray d k = true → a.tmps.getD k undef = a0.tmps.getD k undef) →
      a.tmps.size = a0.tmps.size → a.defers = a0.defers → Q .normal a w) :
    (Code.region id l.toArray true).wp P Q a0 w0 := by
  have hout : ∀ k, outB l.toArray d k = true → ∀ j, j < l.toArray.size → d j ≠ k := fun k hk j hj => by
    unfold outB at hk
    rw [List.all_eq_true] at hk
    exact of_decide_eq_true (hk j (List.mem_range.2 hj))
  refine wp_region_mono hm d hp sp mono (fun i o hio a w hb hdep hk K hK => ?_) (fun a w hb hsp hk => hend a w hb (by simpa using hsp) (fun k hkk => hk k (hout k hkk))) ho
  exact opsOk_at l 0 i o hop (by simpa using hio) a w K hb hdep (fun k hkk => hk k (hout k hkk)) (by rw [Nat.zero_add]; exact hK)
end
end Go.Proofs.Ytgcmklliafcffaa.MacP
