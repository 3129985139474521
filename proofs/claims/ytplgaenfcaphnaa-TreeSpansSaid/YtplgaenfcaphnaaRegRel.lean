/-
  Two laws on a region that draws its order: one whose operations keep a relation of one's own; one in which one operation writes, and a last one closes it.
-/
import Derived.Test.YtplgaenfcaphnaaRegLit
namespace Go.Proofs.Ytplgaenfcaphnaa.MacP
open Go.RowKit
set_option linter.unusedVariables false

section
variable {P : Program} {ops : Array Oper} {Q : Exit → Act → World → Prop}

/-- What is asked of the operations, one by one, over a relation. -/
def RelOk (P : Program) (Q : Exit → Act → World → Prop) (R : World → World → Prop) (ops : Array Oper) (d : Nat → Nat) (sp : Nat → Value → World → Prop) (a0 : Act) (w0 : World) : List Oper → Nat → Prop
  | [], _ => True
  | o :: rest, i => (∀ (a : Act) (w : World) (K : Act → World → Prop), R w0 w → (∀ e ∈ o.after, Region.binds .any e = true → sp e.on (a.tmps.getD (d e.on) undef) w) →
      (∀ k, outB ops d k = true → a.tmps.getD k undef = a0.tmps.getD k undef) →
      (∀ v w', sp i v w' → R w w' → K (a.put (some (d i)) v) w') → Oper.wp P o a w K Q) ∧ RelOk P Q R ops d sp a0 w0 rest (i + 1)
theorem relOk_at {R : World → World → Prop} {d : Nat → Nat} {sp : Nat → Value → World → Prop} {a0 : Act} {w0 : World} : ∀ (l : List Oper) (n i : Nat) (o : Oper), RelOk P Q R ops d sp a0 w0 l n → l[i]? = some o →
    ∀ (a : Act) (w : World) (K : Act → World → Prop), R w0 w → (∀ e ∈ o.after, Region.binds .any e = true → sp e.on (a.tmps.getD (d e.on) undef) w) →
      (∀ k, outB ops d k = true → a.tmps.getD k undef = a0.tmps.getD k undef) →
      (∀ v w', sp (n + i) v w' → R w w' → K (a.put (some (d (n + i))) v) w') → Oper.wp P o a w K Q
  | [], n, i, o, _, h => by simp at h
  | p :: rest, n, 0, o, hk, h => by
    obtain rfl : p = o := by simpa using h
    exact hk.1
  | p :: rest, n, i + 1, o, hk, h => by
    have := relOk_at rest (n + 1) i o hk.2 (by simpa using h)
    rw [show n + 1 + i = n + (i + 1) by omega] at this
    exact this

theorem wp_region_rel {id : Nat} {l : List Oper} {a0 : Act} {w0 : World} (hm : P.follows .mixedOrders = true) (R : World → World → Prop) (htrans : ∀ {x y z}, R x y → R y z → R x z) (hdrew : ∀ w : World, R w { w with drawn := w.drawn + 1 })
    (d : Nat → Nat) (hp : plainB l.toArray d a0.tmps.size = true) (ho : orderB l.toArray = true)
    (sp : Nat → Value → World → Prop) (mono : ∀ i v w w', sp i v w → R w w' → sp i v w')
    (hop : RelOk P Q R l.toArray d sp a0 w0 l 0)
    (hend : ∀ (a : Act) (w : World), R w0 w → (∀ i, i < l.length → sp i (a.tmps.getD (d i) undef) w) → (∀ k, outB l.toArray d k = true → a.tmps.getD k undef = a0.tmps.getD k undef) →
      a.tmps.size = a0.tmps.size → a.defers = a0.defers → Q .normal a w) :
    (Code.region id l.toArray true).wp P Q a0 w0 := by
  have hout : ∀ k, outB l.toArray d k = true → ∀ j, j < l.toArray.size → d j ≠ k := fun k hk j hj => by
    unfold outB at hk
    rw [List.all_eq_true] at hk
    exact of_decide_eq_true (hk j (List.mem_range.2 hj))
  refine wp_region_any hm ?_
  refine wpAny_of_inv (fun listed a w => listed.size = l.toArray.size ∧ R w0 w ∧ a.tmps.size = a0.tmps.size ∧ a.defers = a0.defers ∧ (∀ i, listed.getD i false = true → sp i (a.tmps.getD (d i) undef) w) ∧
    (∀ k, (∀ j, listed.getD j false = true → d j ≠ k) → a.tmps.getD k undef = a0.tmps.getD k undef)) (fun _ _ _ h => h.1) ?_ ?_ _ _ _ _ ?_ ?_
  · rintro listed a w i ⟨hs, hb, hn, hdf, hsp, hk⟩ hi
    obtain ⟨h1, o, ho, hdeps⟩ := mem_ready.1 hi
    obtain ⟨e1, e2, e3, e4⟩ := plainB_spec hp i o ho
    have hilt : i < l.toArray.size := (Array.getElem?_eq_some_iff.1 ho).1
    have hlist : ∀ j, listed.getD j false = true → j < l.toArray.size := fun j hj => by rw [← hs]; exact listed_lt hj
    unfold wpOp
    simp only [ho]
    have hw : Region.wanted o (yielded l.toArray a.tmps) = true := by simp [Region.wanted, e2]
    rw [if_pos hw]
    refine .inl (relOk_at l 0 i o hop (by simpa using ho) a w _ hb (fun e he hbn => hsp _ (hdeps e he hbn)) (fun k hkk => hk k (fun j hj => hout k hkk j (hlist j hj))) ?_)
    rw [Nat.zero_add]
    intro v w' hv hbw
    refine ⟨by simpa using hs, htrans hb hbw, by simpa [Act.put] using hn, by simpa [Act.put] using hdf, fun j hj => ?_, fun k hkk => ?_⟩
    · rw [getD_put _ _ _ _ (by omega)]
      by_cases hji : j = i
      · subst hji; rw [if_pos rfl]; exact hv
      · rw [listed_ne hji] at hj
        rw [if_neg (fun h => e4 j (hlist j hj) (Ne.symm hji) h.symm)]
        exact mono _ _ _ _ (hsp j hj) hbw
    · have hne : k ≠ d i := fun h => hkk i (listed_self (by omega)) h.symm
      rw [getD_put _ _ _ _ (by omega), if_neg hne]
      refine hk k fun j hj => hkk j ?_
      by_cases hji : j = i
      · subst hji; exact listed_self (by omega)
      · rw [listed_ne hji]; exact hj
  · rintro listed a w ⟨hs, hb, hn, hdf, hsp, hk⟩ hr
    have hl := all_listed ho listed hr hs
    exact hend a w hb (fun i hi => hsp i (hl i (by simpa using hi))) (fun k hkk => hk k fun j hj => hout k hkk j (by rw [← hs]; exact listed_lt hj)) hn hdf
  · unfold left
    exact Nat.le_trans (List.countP_le_length) (by simp)
  · refine ⟨by simp, hdrew w0, rfl, rfl, fun i hi => ?_, fun k _ => rfl⟩
    exfalso
    simp only [Array.getD_eq_getD_getElem?, Array.getElem?_replicate] at hi
    split at hi <;> simp at hi

/-- Each operation ahead of S is wanted by a later one. -/
def closedB (ops : Array Oper) (S : Nat) : Bool := (List.range S).all fun i => (List.range ops.size).any fun j => decide (i < j) && ((ops[j]?).map fun o => o.after.any fun e => decide (e.on = i) && Region.binds .any e).getD false
theorem closedB_spec {S : Nat} (h : closedB ops S = true) (i : Nat) (hi : i < S) : ∃ j o, i < j ∧ ops[j]? = some o ∧ ∃ e ∈ o.after, e.on = i ∧ Region.binds .any e = true := by
  unfold closedB at h
  rw [List.all_eq_true] at h
  have h1 := h i (List.mem_range.2 hi)
  rw [List.any_eq_true] at h1
  obtain ⟨j, _, h2⟩ := h1
  rw [Bool.and_eq_true, decide_eq_true_eq] at h2
  obtain ⟨hij, h3⟩ := h2
  cases ho : ops[j]? with
  | none => rw [ho] at h3; simp at h3
  | some o =>
    rw [ho] at h3
    simp only [Option.map_some, Option.getD_some] at h3
    rw [Array.any_eq_true] at h3
    obtain ⟨x, hx, h4⟩ := h3
    rw [Bool.and_eq_true, decide_eq_true_eq] at h4
    exact ⟨j, o, hij, ho, o.after[x], Array.getElem_mem hx, h4⟩

/-- What is asked of the operations, one by one: m writes, S is the last one. -/
def TailOk (P : Program) (Q : Exit → Act → World → Prop) (R : World → Prop) (M : World → World → Prop) (ops : Array Oper) (d : Nat → Nat) (sp : Nat → Value → World → Prop) (m S : Nat) (a0 : Act) (w0 : World) : List Oper → Nat → Prop
  | [], _ => True
  | o :: rest, i => (∀ (a : Act) (w : World) (K : Act → World → Prop), R w → (i = m → Below w0.heap.size w0 w) → (∀ e ∈ o.after, Region.binds .any e = true → e.on ≠ S → sp e.on (a.tmps.getD (d e.on) undef) w) →
      (∀ k, outL ops d S k = true → a.tmps.getD k undef = a0.tmps.getD k undef) →
      (if i = S then (∀ w', (∀ j, j < S → sp j (a.tmps.getD (d j) undef) w) → a.tmps.size = a0.tmps.size → a.defers = a0.defers → Q .normal a w' → K a w')
       else if i = m then ∀ v w', sp i v w' → M w w' → K (a.put (some (d i)) v) w'
       else ∀ v w', sp i v w' → Below w.heap.size w w' → K (a.put (some (d i)) v) w') →
      (i = S → (∀ j, j < S → sp j (a.tmps.getD (d j) undef) w) ∧ a.tmps.size = a0.tmps.size ∧ a.defers = a0.defers) → Oper.wp P o a w K Q) ∧ TailOk P Q R M ops d sp m S a0 w0 rest (i + 1)
theorem tailOk_at {R : World → Prop} {M : World → World → Prop} {d : Nat → Nat} {sp : Nat → Value → World → Prop} {m S : Nat} {a0 : Act} {w0 : World} : ∀ (l : List Oper) (n i : Nat) (o : Oper), TailOk P Q R M ops d sp m S a0 w0 l n → l[i]? = some o →
    ∀ (a : Act) (w : World) (K : Act → World → Prop), R w → (n + i = m → Below w0.heap.size w0 w) → (∀ e ∈ o.after, Region.binds .any e = true → e.on ≠ S → sp e.on (a.tmps.getD (d e.on) undef) w) →
      (∀ k, outL ops d S k = true → a.tmps.getD k undef = a0.tmps.getD k undef) →
      (if n + i = S then (∀ w', (∀ j, j < S → sp j (a.tmps.getD (d j) undef) w) → a.tmps.size = a0.tmps.size → a.defers = a0.defers → Q .normal a w' → K a w')
       else if n + i = m then ∀ v w', sp (n + i) v w' → M w w' → K (a.put (some (d (n + i))) v) w'
       else ∀ v w', sp (n + i) v w' → Below w.heap.size w w' → K (a.put (some (d (n + i))) v) w') →
      (n + i = S → (∀ j, j < S → sp j (a.tmps.getD (d j) undef) w) ∧ a.tmps.size = a0.tmps.size ∧ a.defers = a0.defers) → Oper.wp P o a w K Q
  | [], n, i, o, _, h => by simp at h
  | p :: rest, n, 0, o, hk, h => by
    obtain rfl : p = o := by simpa using h
    exact hk.1
  | p :: rest, n, i + 1, o, hk, h => by
    have := tailOk_at rest (n + 1) i o hk.2 (by simpa using h)
    rw [show n + 1 + i = n + (i + 1) by omega] at this
    exact this

structure TailInv (ops : Array Oper) (R : World → Prop) (d : Nat → Nat) (sp : Nat → Value → World → Prop) (m S : Nat) (a0 : Act) (w0 : World) (listed : Array Bool) (a : Act) (w : World) : Prop where
  ls : listed.size = ops.size
  r : R w
  bel : listed.getD m false = false → Below w0.heap.size w0 w
  sz : a.tmps.size = a0.tmps.size
  df : a.defers = a0.defers
  vs : ∀ i, listed.getD i false = true → sp i (a.tmps.getD (d i) undef) w
  ks : ∀ k, (∀ j, listed.getD j false = true → d j ≠ k) → a.tmps.getD k undef = a0.tmps.getD k undef
  dn : ∀ j o, listed.getD j false = true → ops[j]? = some o → ∀ e ∈ o.after, Region.binds .any e = true → listed.getD e.on false = true
  ns : listed.getD S false = false

/-- Operation m writes (M), the last one, S, closes; each other one only makes memory. -/
theorem wp_region_tail {id : Nat} {l : List Oper} {a0 : Act} {w0 : World} (hm : P.follows .mixedOrders = true) (d : Nat → Nat) (m S : Nat) (hmS : m < S) (hS : l.length = S + 1)
    (hp : litB l.toArray d S a0.tmps.size = true) (ho : orderB l.toArray = true) (hc : closedB l.toArray S = true)
    (R : World → Prop) (M : World → World → Prop) (hR0 : ∀ w, Below w0.heap.size w0 w → R w) (hRB : ∀ w w', R w → Below w.heap.size w w' → R w') (hRM : ∀ w w', Below w0.heap.size w0 w → M w w' → R w')
    (sp : Nat → Value → World → Prop) (mono : ∀ i v w w', sp i v w → Below w.heap.size w w' → sp i v w') (monoM : ∀ i v w w', i ≠ m → sp i v w → Below w0.heap.size w0 w → M w w' → sp i v w')
    (hop : TailOk P Q R M l.toArray d sp m S a0 w0 l 0) :
    (Code.region id l.toArray true).wp P Q a0 w0 := by
  refine wp_region_any hm ?_
  have hd0 : Below w0.heap.size w0 { w0 with drawn := w0.drawn + 1 } := (Below.refl _ _).drew
  have hll : l.toArray.size = S + 1 := by simpa using hS
  have hspec := litB_spec hp
  refine wpAny_of_inv (fun listed a w => if listed.getD S false = true then listed.size = l.toArray.size ∧ (∀ i, i < l.toArray.size → listed.getD i false = true) ∧ Q .normal a w else TailInv l.toArray R d sp m S a0 w0 listed a w) (fun _ _ _ h => ?_) ?_ ?_ _ _ _ _ ?_ ?_
  · split at h
    · exact h.1
    · exact h.ls
  · intro listed a w i h hi
    obtain ⟨h1, o, hoi, hdeps⟩ := mem_ready.1 hi
    have hilt : i < l.toArray.size := (Array.getElem?_eq_some_iff.1 hoi).1
    by_cases hLS : listed.getD S false = true
    · rw [if_pos hLS] at h
      obtain ⟨q1, q2, _⟩ := h
      have := q2 i hilt
      have hlt : i < listed.size := by omega
      simp only [Array.getD_eq_getD_getElem?, Array.getElem?_eq_getElem hlt, Option.getD_some] at h1 this
      rw [h1] at this; cases this
    rw [if_neg hLS] at h
    have hli : listed.getD i false = false := by
      have : i < listed.size := by rw [h.ls]; exact hilt
      simp only [Array.getD_eq_getD_getElem?, Array.getElem?_eq_getElem this, Option.getD_some] at h1 ⊢
      exact h1
    obtain ⟨e1, e2, e3⟩ := hspec i o hoi
    unfold wpOp
    simp only [hoi]
    have hw : Region.wanted o (yielded l.toArray a.tmps) = true := by simp [Region.wanted, e1]
    rw [if_pos hw]
    have hlist : ∀ j, listed.getD j false = true → j < l.toArray.size := fun j hj => by rw [← h.ls]; exact listed_lt hj
    have hks : ∀ k, outL l.toArray d S k = true → a.tmps.getD k undef = a0.tmps.getD k undef := fun k hk => h.ks k fun j hj => by
      have hjl := hlist j hj
      have hjS : j ≠ S := fun e => by subst e; exact hLS hj
      unfold outL at hk
      rw [List.all_eq_true] at hk
      have := hk j (List.mem_range.2 hjl)
      simp only [Bool.or_eq_true, decide_eq_true_eq] at this
      exact this.resolve_left hjS
    have hall : i = S → ∀ j, j < S → listed.getD j false = true := by
      intro hiS
      subst hiS
      have key : ∀ n j, i - j ≤ n → j < i → listed.getD j false = true := by
        intro n
        induction n with
        | zero => intro j h1 h2; omega
        | succ n ih =>
          intro j h1 h2
          obtain ⟨j', o', hjj, hoj, e, he, hon, hb⟩ := closedB_spec hc j h2
          have hj'l : j' < l.toArray.size := (Array.getElem?_eq_some_iff.1 hoj).1
          rw [← hon]
          rcases Nat.lt_or_ge j' i with hlt | hge
          · exact h.dn j' o' (ih j' (by omega) hlt) hoj e he hb
          · obtain rfl : j' = i := by omega
            obtain rfl : o' = o := by rw [hoi] at hoj; exact (Option.some.inj hoj).symm
            exact hdeps e he hb
      exact fun j hj => key i j (by omega) hj
    refine .inl (tailOk_at l 0 i o hop (by simpa using hoi) a w _ h.r (fun him => h.bel (by rw [Nat.zero_add] at him; rw [← him]; exact hli)) (fun e he hb hS' => h.vs _ (hdeps e he hb)) hks ?_ (fun hiS => ⟨fun j hj => h.vs j (hall (by omega) j hj), h.sz, h.df⟩))
    rw [Nat.zero_add]
    by_cases hiS : i = S
    · rw [if_pos hiS]
      intro w' _ _ _ hQ
      have hSl : (listed.setIfInBounds i true).getD S false = true := by rw [← hiS]; exact listed_self (by rw [h.ls]; exact hilt)
      rw [if_pos hSl]
      refine ⟨by simpa using h.ls, fun j hj => ?_, hQ⟩
      by_cases hji : j = i
      · subst hji; exact listed_self (by rw [h.ls]; exact hilt)
      · rw [listed_ne hji]; exact hall hiS j (by omega)
    · rw [if_neg hiS]
      obtain ⟨f0, f1, f2⟩ := e3 hiS
      have hnS : (listed.setIfInBounds i true).getD S false = false := by rw [listed_ne (Ne.symm hiS)]; exact h.ns
      have common : ∀ (v : Value) (w' : World), sp i v w' → R w' → (i ≠ m → listed.getD m false = false → Below w0.heap.size w0 w') → (∀ j, listed.getD j false = true → sp j (a.tmps.getD (d j) undef) w') → TailInv l.toArray R d sp m S a0 w0 (listed.setIfInBounds i true) (a.put (some (d i)) v) w' := by
        intro v w' hv hR hB hvs
        refine ⟨by simpa using h.ls, hR, fun hmm => ?_, by simpa [Act.put] using h.sz, by simpa [Act.put] using h.df, fun j hj => ?_, fun k hk => ?_, fun j o' hj hoj e he hb => ?_, hnS⟩
        · by_cases him : i = m
          · subst him; rw [listed_self (by rw [h.ls]; exact hilt)] at hmm; cases hmm
          · rw [listed_ne (Ne.symm him)] at hmm; exact hB him hmm
        · by_cases hji : j = i
          · subst hji
            rw [getD_put _ _ _ _ (by rw [h.sz]; exact f1), if_pos rfl]; exact hv
          · rw [listed_ne hji] at hj
            have hjS : j ≠ S := fun e => by subst e; exact hLS hj
            rw [getD_put _ _ _ _ (by rw [h.sz]; exact f1), if_neg (fun k => f2 j (hlist j hj) hjS (Ne.symm hji) k.symm)]
            exact hvs j hj
        · have hne : k ≠ d i := fun q => hk i (listed_self (by rw [h.ls]; exact hilt)) q.symm
          rw [getD_put _ _ _ _ (by rw [h.sz]; exact f1), if_neg hne]
          exact h.ks k fun j hj => hk j (by
            by_cases hji : j = i
            · subst hji; exact listed_self (by rw [h.ls]; exact hilt)
            · rw [listed_ne hji]; exact hj)
        · have hle : listed.getD e.on false = true → (listed.setIfInBounds i true).getD e.on false = true := fun q => by
            by_cases hei : e.on = i
            · rw [hei]; exact listed_self (by rw [h.ls]; exact hilt)
            · rw [listed_ne hei]; exact q
          by_cases hji : j = i
          · subst hji
            obtain rfl : o' = o := by rw [hoi] at hoj; exact (Option.some.inj hoj).symm
            exact hle (hdeps e he hb)
          · rw [listed_ne hji] at hj
            exact hle (h.dn j o' hj hoj e he hb)
      by_cases him : i = m
      · rw [if_pos him]
        intro v w' hv hM
        rw [if_neg (by rw [hnS]; simp)]
        have hbel := h.bel (by rw [← him]; exact hli)
        refine common v w' hv (hRM _ _ hbel hM) (fun q => absurd him q) fun j hj => monoM _ _ _ _ (fun q => ?_) (h.vs j hj) hbel hM
        subst q; rw [him] at hli; rw [hli] at hj; cases hj
      · rw [if_neg him]
        intro v w' hv hbw
        rw [if_neg (by rw [hnS]; simp)]
        exact common v w' hv (hRB _ _ h.r hbw) (fun _ hmm => (h.bel hmm).trans (hbw.mono (h.bel hmm).size)) fun j hj => mono _ _ _ _ (h.vs j hj) hbw
  · intro listed a w h hr
    by_cases hLS : listed.getD S false = true
    · rw [if_pos hLS] at h; exact h.2.2
    · rw [if_neg hLS] at h
      exact absurd (all_listed ho listed hr h.ls S (by omega)) hLS
  · unfold left
    exact Nat.le_trans (List.countP_le_length) (by simp)
  · have hf : ∀ i, (Array.replicate l.toArray.size false).getD i false = true → False := fun i hi => by
      simp only [Array.getD_eq_getD_getElem?, Array.getElem?_replicate] at hi
      split at hi <;> simp at hi
    rw [if_neg (fun q => hf _ q)]
    refine ⟨by simp, hR0 _ hd0, fun _ => hd0, rfl, rfl, fun i hi => absurd hi (fun k => hf i k), fun k _ => rfl, fun j o hj => absurd hj (fun k => hf _ k), ?_⟩
    cases hq : (Array.replicate l.toArray.size false).getD S false
    · rfl
    · exact absurd hq (fun k => hf _ k)
end
end Go.Proofs.Ytplgaenfcaphnaa.MacP
