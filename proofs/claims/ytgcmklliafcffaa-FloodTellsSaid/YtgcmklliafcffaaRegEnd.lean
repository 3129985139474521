/-
  A region that draws its order, whose first m operations read, or make memory, and whose others come behind all of these, one after the other: the first ones an operation at a time, in whatever order; the others as they stand.
-/
import Derived.Test.YtgcmklliafcffaaRegMono
namespace Go.Proofs.Ytgcmklliafcffaa.MacP
open Go.RowKit
set_option linter.unusedVariables false
section
variable {P : Program} {ops : Array Oper} {Q : Exit → Act → World → Prop}
/-- What is asked of the operations' slots, and of what they wait for. -/
def endsB (ops : Array Oper) (d : Nat → Nat) (m n : Nat) : Bool :=
  decide (m < ops.size) && orderB ops &&
  ((List.range m).all fun i => ((ops[i]?).map fun o => o.dst == some (d i) && o.guard.isNone).getD false && decide (d i < n) && (List.range m).all fun j => decide (i = j) || decide (d i ≠ d j)) &&
  ((List.range m).all fun i => (List.range (m + 1)).any fun j => decide (i < j) && ((ops[j]?).map fun o => o.after.any fun e => decide (e.on = i) && Region.binds .any e).getD false) &&
  ((List.range ops.size).all fun i => decide (i ≤ m) || ((ops[i]?).map fun o => o.after.any fun e => decide (e.on = i - 1) && Region.binds .any e).getD false)
structure Ends (ops : Array Oper) (d : Nat → Nat) (m n : Nat) : Prop where
  lt : m < ops.size
  order : orderB ops = true
  plain : ∀ i o, i < m → ops[i]? = some o → o.dst = some (d i) ∧ o.guard = none ∧ d i < n ∧ ∀ j, j < m → i ≠ j → d i ≠ d j
  closed : ∀ i, i < m → ∃ j o, i < j ∧ j ≤ m ∧ ops[j]? = some o ∧ ∃ e ∈ o.after, e.on = i ∧ Region.binds .any e = true
  tail : ∀ i o, m < i → ops[i]? = some o → ∃ e ∈ o.after, e.on = i - 1 ∧ Region.binds .any e = true
theorem any_edge {o : Oper} {i : Nat} (h : (o.after.any fun e => decide (e.on = i) && Region.binds .any e) = true) : ∃ e ∈ o.after, e.on = i ∧ Region.binds .any e = true := by
  rw [Array.any_eq_true] at h
  obtain ⟨x, hx, h4⟩ := h
  rw [Bool.and_eq_true, decide_eq_true_eq] at h4
  exact ⟨o.after[x], Array.getElem_mem hx, h4⟩
theorem Ends.of {d : Nat → Nat} {m n : Nat} (h : endsB ops d m n = true) : Ends ops d m n := by
  unfold endsB at h
  simp only [Bool.and_eq_true, decide_eq_true_eq] at h
  obtain ⟨⟨⟨⟨h1, h2⟩, h3⟩, h4⟩, h5⟩ := h
  refine ⟨h1, h2, fun i o hi ho => ?_, fun i hi => ?_, fun i o hi ho => ?_⟩
  · rw [List.all_eq_true] at h3
    have := h3 i (List.mem_range.2 hi)
    simp only [ho, Option.map_some, Option.getD_some, Bool.and_eq_true, beq_iff_eq, Option.isNone_iff_eq_none, decide_eq_true_eq, List.all_eq_true, List.mem_range, Bool.or_eq_true] at this
    obtain ⟨⟨⟨a, b⟩, c⟩, e⟩ := this
    exact ⟨a, b, c, fun j hj hne => (e j hj).resolve_left hne⟩
  · rw [List.all_eq_true] at h4
    have := h4 i (List.mem_range.2 hi)
    rw [List.any_eq_true] at this
    obtain ⟨j, hj, h6⟩ := this
    rw [Bool.and_eq_true, decide_eq_true_eq] at h6
    obtain ⟨hij, h7⟩ := h6
    cases ho : ops[j]? with
    | none => rw [ho] at h7; simp at h7
    | some o =>
      rw [ho] at h7
      simp only [Option.map_some, Option.getD_some] at h7
      exact ⟨j, o, hij, by have := List.mem_range.1 hj; omega, ho, any_edge h7⟩
  · rw [List.all_eq_true] at h5
    have := h5 i (List.mem_range.2 (Array.getElem?_eq_some_iff.1 ho).1)
    rw [Bool.or_eq_true, decide_eq_true_eq] at this
    rcases this with h6 | h6
    · omega
    · rw [ho] at h6
      simp only [Option.map_some, Option.getD_some] at h6
      exact any_edge h6
/-- Slot k is written by none of the first m. -/
def outM (d : Nat → Nat) (m k : Nat) : Bool := (List.range m).all fun j => decide (d j ≠ k)
/-- What is asked of the first operations, one by one. -/
def HeadOk (P : Program) (Q : Exit → Act → World → Prop) (d : Nat → Nat) (sp : Nat → Value → World → Prop) (m : Nat) (a0 : Act) (w0 : World) : List Oper → Nat → Prop
  | [], _ => True
  | o :: rest, i => (∀ (a : Act) (w : World) (K : Act → World → Prop), Below w0.heap.size w0 w → (∀ e ∈ o.after, Region.binds .any e = true → sp e.on (a.tmps.getD (d e.on) undef) w) →
      (∀ k, outM d m k = true → a.tmps.getD k undef = a0.tmps.getD k undef) →
      (∀ v w', sp i v w' → Below w.heap.size w w' → K (a.put (some (d i)) v) w') → Oper.wp P o a w K Q) ∧ HeadOk P Q d sp m a0 w0 rest (i + 1)
theorem headOk_at {d : Nat → Nat} {sp : Nat → Value → World → Prop} {m : Nat} {a0 : Act} {w0 : World} : ∀ (l : List Oper) (n i : Nat) (o : Oper), HeadOk P Q d sp m a0 w0 l n → l[i]? = some o →
    ∀ (a : Act) (w : World) (K : Act → World → Prop), Below w0.heap.size w0 w → (∀ e ∈ o.after, Region.binds .any e = true → sp e.on (a.tmps.getD (d e.on) undef) w) →
      (∀ k, outM d m k = true → a.tmps.getD k undef = a0.tmps.getD k undef) →
      (∀ v w', sp (n + i) v w' → Below w.heap.size w w' → K (a.put (some (d (n + i))) v) w') → Oper.wp P o a w K Q
  | [], n, i, o, _, h => by simp at h
  | p :: rest, n, 0, o, hk, h => by
    obtain rfl : p = o := by simpa using h
    exact hk.1
  | p :: rest, n, i + 1, o, hk, h => by
    have := headOk_at rest (n + 1) i o hk.2 (by simpa using h)
    rw [show n + 1 + i = n + (i + 1) by omega] at this
    exact this
structure HeadInv (ops : Array Oper) (d : Nat → Nat) (sp : Nat → Value → World → Prop) (m : Nat) (a0 : Act) (w0 : World) (listed : Array Bool) (a : Act) (w : World) : Prop where
  b : Below w0.heap.size w0 w
  sz : a.tmps.size = a0.tmps.size
  df : a.defers = a0.defers
  vs : ∀ i, listed.getD i false = true → sp i (a.tmps.getD (d i) undef) w
  ks : ∀ k, outM d m k = true → a.tmps.getD k undef = a0.tmps.getD k undef
  lt : ∀ j, listed.getD j false = true → j < m
  dn : ∀ j o, listed.getD j false = true → ops[j]? = some o → ∀ e ∈ o.after, Region.binds .any e = true → listed.getD e.on false = true
/-- All up to j have come up, and none behind it. -/
structure TailAt (P : Program) (ops : Array Oper) (l : List Oper) (Q : Exit → Act → World → Prop) (listed : Array Bool) (j : Nat) (a : Act) (w : World) : Prop where
  up : ∀ i, i < j → listed.getD i false = true
  no : ∀ i, j ≤ i → listed.getD i false = false
  run : wpList P ops Q (l.drop j) a w
theorem wp_region_ends {id : Nat} {l : List Oper} {a0 : Act} {w0 : World} (hm : P.follows .mixedOrders = true) (d : Nat → Nat) (m : Nat) (hE0 : endsB l.toArray d m a0.tmps.size = true)
    (sp : Nat → Value → World → Prop) (mono : ∀ i v w w', sp i v w → Below w.heap.size w w' → sp i v w')
    (hop : HeadOk P Q d sp m a0 w0 (l.take m) 0)
    (hend : ∀ (a : Act) (w : World), Below w0.heap.size w0 w → (∀ i, i < m → sp i (a.tmps.getD (d i) undef) w) → (∀ k, outM d m k = true → a.tmps.getD k undef = a0.tmps.getD k undef) →
      a.tmps.size = a0.tmps.size → a.defers = a0.defers → wpList P l.toArray Q (l.drop m) a w) :
    (Code.region id l.toArray true).wp P Q a0 w0 := by
  have E := Ends.of hE0
  refine wp_region_any hm ?_
  have hd0 : Below w0.heap.size w0 { w0 with drawn := w0.drawn + 1 } := (Below.refl _ _).drew
  have hll : l.toArray.size = l.length := by simp
  have hml : m < l.length := by have := E.lt; omega
  have hget : ∀ i : Nat, l.toArray[i]? = l[i]? := fun i => List.getElem?_toArray
  -- what has come up is closed: when m is ready, all ahead of it have come up
  have hclosed : ∀ (listed : Array Bool), (∀ j o, listed.getD j false = true → l.toArray[j]? = some o → ∀ e ∈ o.after, Region.binds .any e = true → listed.getD e.on false = true) →
      ∀ om, l.toArray[m]? = some om → (∀ e ∈ om.after, Region.binds .any e = true → listed.getD e.on false = true) → ∀ j, j < m → listed.getD j false = true := by
    intro listed hdn om hom hdeps
    have key : ∀ n j, m - j ≤ n → j < m → listed.getD j false = true := by
      intro n
      induction n with
      | zero => intro j h1 h2; omega
      | succ n ih =>
        intro j h1 h2
        obtain ⟨j', o', hjj, hj'm, hoj, e, he, hon, hb⟩ := E.closed j h2
        rw [← hon]
        rcases Nat.lt_or_ge j' m with hlt | hge
        · exact hdn j' o' (ih j' (by omega) hlt) hoj e he hb
        · obtain rfl : j' = m := by omega
          obtain rfl : o' = om := by rw [hom] at hoj; exact (Option.some.inj hoj).symm
          exact hdeps e he hb
    exact fun j hj => key (m - j) j (Nat.le_refl _) hj
  -- a step of the tail
  have hstep : ∀ (listed : Array Bool) (j : Nat) (o : Oper) (a : Act) (w : World), listed.size = l.length → TailAt P l.toArray l Q listed j a w → l[j]? = some o →
      wpOp P l.toArray Q j (fun a' w' => TailAt P l.toArray l Q (listed.setIfInBounds j true) (j + 1) a' w') a w := by
    intro listed j o a w hls hT hoj
    have hjl : j < l.length := (List.getElem?_eq_some_iff.1 hoj).1
    have hdrop : l.drop j = o :: l.drop (j + 1) := by
      rw [List.drop_eq_getElem_cons hjl]
      congr 1
      rw [List.getElem?_eq_getElem hjl] at hoj
      exact Option.some.inj hoj
    have hr := hT.run
    rw [hdrop] at hr
    have hmk : ∀ a' w', wpList P l.toArray Q (l.drop (j + 1)) a' w' → TailAt P l.toArray l Q (listed.setIfInBounds j true) (j + 1) a' w' := fun a' w' h =>
      ⟨fun i hi => by
        by_cases hij : i = j
        · subst hij; simp [hls, hjl]
        · have := hT.up i (by omega)
          simpa [Array.getD_eq_getD_getElem?, Array.getElem?_setIfInBounds_ne (Ne.symm hij)] using this,
       fun i hi => by
        have := hT.no i (by omega)
        simpa [Array.getD_eq_getD_getElem?, Array.getElem?_setIfInBounds_ne (show j ≠ i by omega)] using this, h⟩
    unfold wpOp
    rw [hget, hoj]
    simp only
    unfold wpList at hr
    split
    · rename_i hw
      rw [if_pos hw] at hr
      rcases hr with hr | hr
      · exact .inl (Oper.wp_mono hmk hr)
      · exact .inr hr
    · rename_i hw
      rw [if_neg hw] at hr
      exact hmk _ _ hr
  refine wpAny_of_inv (fun listed a w => listed.size = l.toArray.size ∧ (HeadInv l.toArray d sp m a0 w0 listed a w ∨ ∃ j, m < j ∧ j ≤ l.length ∧ TailAt P l.toArray l Q listed j a w)) (fun _ _ _ h => h.1) ?_ ?_ _ _ _ _ ?_ ?_
  · rintro listed a w i ⟨hs, h⟩ hi
    obtain ⟨h1, o, hoi, hdeps⟩ := mem_ready.1 hi
    have hilt : i < l.toArray.size := (Array.getElem?_eq_some_iff.1 hoi).1
    have hoi' : l[i]? = some o := by rw [← hget]; exact hoi
    have hli : listed.getD i false = false := by
      have : i < listed.size := by omega
      simp only [Array.getD_eq_getD_getElem?, Array.getElem?_eq_getElem this, Option.getD_some] at h1 ⊢
      exact h1
    have hsz' : (listed.setIfInBounds i true).size = l.toArray.size := by simpa using hs
    rcases h with h | ⟨j, hmj, hjl, hT⟩
    · -- the head
      rcases Nat.lt_trichotomy i m with him | rfl | him
      · obtain ⟨e1, e2, e3, e4⟩ := E.plain i o him hoi
        unfold wpOp
        simp only [hoi]
        have hw : Region.wanted o (yielded l.toArray a.tmps) = true := by simp [Region.wanted, e2]
        rw [if_pos hw]
        have htake : (l.take m)[i]? = some o := by rw [List.getElem?_take, if_pos him]; exact hoi'
        refine .inl (headOk_at (l.take m) 0 i o hop htake a w _ h.b (fun e he hb => h.vs _ (hdeps e he hb)) h.ks ?_)
        rw [Nat.zero_add]
        intro v w' hv hbw
        have hgp : ∀ k, (a.put (some (d i)) v).tmps.getD k undef = if k = d i then v else a.tmps.getD k undef := fun k => by
          simp only [Act.put, Array.getD_eq_getD_getElem?]
          by_cases hkd : k = d i
          · subst hkd; rw [if_pos rfl, Array.getElem?_setIfInBounds_self_of_lt (by rw [h.sz]; exact e3)]; rfl
          · rw [if_neg hkd, Array.getElem?_setIfInBounds_ne (Ne.symm hkd)]
        have hset : ∀ j, (listed.setIfInBounds i true).getD j false = true → j = i ∨ listed.getD j false = true := fun j hj => by
          by_cases hji : j = i
          · exact .inl hji
          · exact .inr (by simpa [Array.getD_eq_getD_getElem?, Array.getElem?_setIfInBounds_ne (Ne.symm hji)] using hj)
        refine ⟨hsz', .inl ⟨h.b.trans (hbw.mono h.b.size), by simpa [Act.put] using h.sz, by simpa [Act.put] using h.df, fun j hj => ?_, fun k hk => ?_, fun j hj => ?_, fun j o' hj hoj e he hb => ?_⟩⟩
        · rw [hgp]
          by_cases hji : j = i
          · subst hji; rw [if_pos rfl]; exact hv
          · have hj' := (hset j hj).resolve_left hji
            rw [if_neg (fun q => e4 j (h.lt j hj') (Ne.symm hji) q.symm)]
            exact mono _ _ _ _ (h.vs j hj') hbw
        · rw [hgp]
          have hne : k ≠ d i := fun q => by
            unfold outM at hk
            rw [List.all_eq_true] at hk
            exact of_decide_eq_true (hk i (List.mem_range.2 him)) q.symm
          rw [if_neg hne]
          exact h.ks k hk
        · rcases hset j hj with rfl | hj'
          · exact him
          · exact h.lt j hj'
        · have hle : listed.getD e.on false = true → (listed.setIfInBounds i true).getD e.on false = true := fun q => by
            by_cases hei : e.on = i
            · rw [hei]; simp [hs]; omega
            · simpa [Array.getD_eq_getD_getElem?, Array.getElem?_setIfInBounds_ne (Ne.symm hei)] using q
          rcases hset j hj with rfl | hj'
          · obtain rfl : o' = o := by rw [hoi] at hoj; exact (Option.some.inj hoj).symm
            exact hle (hdeps e he hb)
          · exact hle (h.dn j o' hj' hoj e he hb)
      · -- i = m: the tail begins
        have hup := hclosed listed h.dn o hoi (fun e he hb => hdeps e he hb)
        have hT : TailAt P l.toArray l Q listed i a w := ⟨hup, fun j hj => by
          cases hq : listed.getD j false with
          | false => rfl
          | true => have := h.lt j hq; omega, hend a w h.b (fun j hj => h.vs j (hup j hj)) h.ks h.sz h.df⟩
        refine wpOp_mono (fun a' w' h' => ?_) (hstep listed i o a w (by omega) hT hoi')
        exact ⟨hsz', .inr ⟨i + 1, by omega, by omega, h'⟩⟩
      · exfalso
        obtain ⟨e, hee, hon, hb⟩ := E.tail i o him hoi
        have := h.lt _ (hdeps e hee hb)
        omega
    · obtain rfl : i = j := by
        rcases Nat.lt_trichotomy i j with hij | hij | hij
        · have := hT.up i hij; rw [hli] at this; cases this
        · exact hij
        · exfalso
          obtain ⟨e, hee, hon, hb⟩ := E.tail i o (by omega) hoi
          have h3 := hdeps e hee hb
          rw [hon] at h3
          have h4 := hT.no (i - 1) (by omega)
          rw [h3] at h4; cases h4
      refine wpOp_mono (fun a' w' h' => ?_) (hstep listed i o a w (by omega) hT hoi')
      exact ⟨hsz', .inr ⟨i + 1, by omega, by omega, h'⟩⟩
  · rintro listed a w ⟨hs, h⟩ hr
    have hl := all_listed E.order listed hr hs
    rcases h with h | ⟨j, hmj, hjl, hT⟩
    · have := h.lt m (hl m E.lt); omega
    · have hj : j = l.length := by
        rcases Nat.lt_or_ge j l.length with hlt | hge
        · have h3 := hT.no j (Nat.le_refl _)
          rw [hl j (by omega)] at h3; cases h3
        · omega
      subst hj
      have := hT.run
      rw [List.drop_length] at this
      exact this
  · unfold left
    exact Nat.le_trans (List.countP_le_length) (by simp)
  · have hf : ∀ i, (Array.replicate l.toArray.size false).getD i false = true → False := fun i hi => by
      simp only [Array.getD_eq_getD_getElem?, Array.getElem?_replicate] at hi
      split at hi <;> simp at hi
    exact ⟨by simp, .inl ⟨hd0, rfl, rfl, fun i hi => (hf i hi).elim, fun k _ => rfl, fun j hj => (hf j hj).elim, fun j _ hj => (hf j hj).elim⟩⟩
end
end Go.Proofs.Ytgcmklliafcffaa.MacP
