/-
  A law on a region that draws its order: one operation, S, closes, and one, m, may write; some, the free ones, are pure and may come behind S.
-/
import Derived.Test.YtidoaccidmmalaaRegRel
namespace Go.Proofs.Ytidoaccidmmalaa.MacP
open Go.RowKit
set_option linter.unusedVariables false

section
variable {P : Program} {ops : Array Oper} {Q : Exit → Act → World → Prop}

/-- Each operation that is not free and not S is wanted by a later one that is not free. -/
def closedF (ops : Array Oper) (S : Nat) (fr : Nat → Bool) : Bool := (List.range ops.size).all fun i => fr i || decide (i = S) || (List.range (S + 1)).any fun j => decide (i < j) && !fr j && ((ops[j]?).map fun o => o.after.any fun e => decide (e.on = i) && Region.binds .any e).getD false
theorem closedF_spec {S : Nat} {fr : Nat → Bool} (h : closedF ops S fr = true) (i : Nat) (hi : i < ops.size) (hf : fr i = false) (hS : i ≠ S) : ∃ j o, i < j ∧ j ≤ S ∧ fr j = false ∧ ops[j]? = some o ∧ ∃ e ∈ o.after, e.on = i ∧ Region.binds .any e = true := by
  unfold closedF at h
  rw [List.all_eq_true] at h
  have h1 := h i (List.mem_range.2 hi)
  rw [Bool.or_eq_true, Bool.or_eq_true, hf, decide_eq_true_eq] at h1
  have h2 := h1.resolve_left (by simp [hS])
  rw [List.any_eq_true] at h2
  obtain ⟨j, hj, h3⟩ := h2
  rw [List.mem_range] at hj
  simp only [Bool.and_eq_true, decide_eq_true_eq, Bool.not_eq_true'] at h3
  obtain ⟨⟨hij, hfj⟩, h4⟩ := h3
  cases ho : ops[j]? with
  | none => rw [ho] at h4; simp at h4
  | some o =>
    rw [ho] at h4
    simp only [Option.map_some, Option.getD_some] at h4
    rw [Array.any_eq_true] at h4
    obtain ⟨x, hx, h5⟩ := h4
    rw [Bool.and_eq_true, decide_eq_true_eq] at h5
    exact ⟨j, o, hij, by omega, hfj, ho, o.after[x], Array.getElem_mem hx, h5⟩

/-- The frame behind all: as it was at S, but for what the free ones yield. -/
def Ended (d : Nat → Nat) (fr : Nat → Bool) (fv : Nat → Value) (n : Nat) (a a' : Act) : Prop :=
  a'.tmps.size = a.tmps.size ∧ a'.defers = a.defers ∧ (∀ k, (∀ i, i < n → fr i = true → d i ≠ k) → a'.tmps.getD k undef = a.tmps.getD k undef) ∧ (∀ i, i < n → fr i = true → a'.tmps.getD (d i) undef = fv i)
def FreeOk (P : Program) (Q : Exit → Act → World → Prop) (R : World → Prop) (M : World → World → Prop) (ops : Array Oper) (d : Nat → Nat) (sp : Nat → Value → World → Prop) (fr : Nat → Bool) (fv : Nat → Value) (m S : Nat) (a0 : Act) (w0 : World) : List Oper → Nat → Prop
  | [], _ => True
  | o :: rest, i => (∀ (a : Act) (w : World) (K : Act → World → Prop), (fr i = false → R w) → (i = m → Below w0.heap.size w0 w) → (∀ e ∈ o.after, Region.binds .any e = true → e.on ≠ S → (fr e.on = true → a.tmps.getD (d e.on) undef = fv e.on) ∧ (fr e.on = false → (∃ w2, sp e.on (a.tmps.getD (d e.on) undef) w2) ∧ (fr i = false → sp e.on (a.tmps.getD (d e.on) undef) w))) →
      (∀ k, outL ops d S k = true → a.tmps.getD k undef = a0.tmps.getD k undef) →
      (if i = S then (∀ w', (∀ a', Ended d fr fv ops.size a a' → Q .normal a' w') → K a w')
       else if fr i = true then K (a.put (some (d i)) (fv i)) w
       else if i = m then ∀ v w', sp i v w' → M w w' → K (a.put (some (d i)) v) w'
       else ∀ v w', sp i v w' → Below w.heap.size w w' → K (a.put (some (d i)) v) w') →
      (i = S → (∀ j, j < S → fr j = false → sp j (a.tmps.getD (d j) undef) w) ∧ a.tmps.size = a0.tmps.size ∧ a.defers = a0.defers) → Oper.wp P o a w K Q) ∧ FreeOk P Q R M ops d sp fr fv m S a0 w0 rest (i + 1)
theorem freeOk_at {R : World → Prop} {M : World → World → Prop} {d : Nat → Nat} {sp : Nat → Value → World → Prop} {fr : Nat → Bool} {fv : Nat → Value} {m S : Nat} {a0 : Act} {w0 : World} : ∀ (l : List Oper) (n i : Nat) (o : Oper), FreeOk P Q R M ops d sp fr fv m S a0 w0 l n → l[i]? = some o →
    ∀ (a : Act) (w : World) (K : Act → World → Prop), (fr (n + i) = false → R w) → (n + i = m → Below w0.heap.size w0 w) → (∀ e ∈ o.after, Region.binds .any e = true → e.on ≠ S → (fr e.on = true → a.tmps.getD (d e.on) undef = fv e.on) ∧ (fr e.on = false → (∃ w2, sp e.on (a.tmps.getD (d e.on) undef) w2) ∧ (fr (n + i) = false → sp e.on (a.tmps.getD (d e.on) undef) w))) →
      (∀ k, outL ops d S k = true → a.tmps.getD k undef = a0.tmps.getD k undef) →
      (if n + i = S then (∀ w', (∀ a', Ended d fr fv ops.size a a' → Q .normal a' w') → K a w')
       else if fr (n + i) = true then K (a.put (some (d (n + i))) (fv (n + i))) w
       else if n + i = m then ∀ v w', sp (n + i) v w' → M w w' → K (a.put (some (d (n + i))) v) w'
       else ∀ v w', sp (n + i) v w' → Below w.heap.size w w' → K (a.put (some (d (n + i))) v) w') →
      (n + i = S → (∀ j, j < S → fr j = false → sp j (a.tmps.getD (d j) undef) w) ∧ a.tmps.size = a0.tmps.size ∧ a.defers = a0.defers) → Oper.wp P o a w K Q
  | [], n, i, o, _, h => by simp at h
  | p :: rest, n, 0, o, hk, h => by
    obtain rfl : p = o := by simpa using h
    exact hk.1
  | p :: rest, n, i + 1, o, hk, h => by
    have := freeOk_at rest (n + 1) i o hk.2 (by simpa using h)
    rw [show n + 1 + i = n + (i + 1) by omega] at this
    exact this

structure FreeInv (ops : Array Oper) (R : World → Prop) (d : Nat → Nat) (sp : Nat → Value → World → Prop) (fr : Nat → Bool) (fv : Nat → Value) (m S : Nat) (a0 : Act) (w0 : World) (listed : Array Bool) (a : Act) (w : World) : Prop where
  ls : listed.size = ops.size
  r : R w
  bel : listed.getD m false = false → Below w0.heap.size w0 w
  sz : a.tmps.size = a0.tmps.size
  df : a.defers = a0.defers
  vs : ∀ i, listed.getD i false = true → fr i = false → sp i (a.tmps.getD (d i) undef) w
  fs : ∀ i, listed.getD i false = true → fr i = true → a.tmps.getD (d i) undef = fv i
  ks : ∀ k, (∀ j, listed.getD j false = true → d j ≠ k) → a.tmps.getD k undef = a0.tmps.getD k undef
  dn : ∀ j o, listed.getD j false = true → ops[j]? = some o → ∀ e ∈ o.after, Region.binds .any e = true → listed.getD e.on false = true
  ns : listed.getD S false = false
structure FreeEnd (ops : Array Oper) (Q : Exit → Act → World → Prop) (d : Nat → Nat) (fr : Nat → Bool) (fv : Nat → Value) (sp : Nat → Value → World → Prop) (S : Nat) (a0 : Act) (listed : Array Bool) (a : Act) (w : World) : Prop where
  ls : listed.size = ops.size
  all : ∀ i, i < ops.size → fr i = false → listed.getD i false = true
  sz : a.tmps.size = a0.tmps.size
  ex : ∃ aS wS, (∀ a', Ended d fr fv ops.size aS a' → Q .normal a' w) ∧ aS.tmps.size = a0.tmps.size ∧ a.defers = aS.defers ∧ (∀ k, (∀ i, i < ops.size → fr i = true → d i ≠ k) → a.tmps.getD k undef = aS.tmps.getD k undef) ∧
    (∀ j, j < ops.size → fr j = false → j ≠ S → sp j (a.tmps.getD (d j) undef) wS)
  fs : ∀ i, listed.getD i false = true → fr i = true → a.tmps.getD (d i) undef = fv i
  ks : ∀ k, outL ops d S k = true → a.tmps.getD k undef = a0.tmps.getD k undef

theorem wp_region_free {id : Nat} {l : List Oper} {a0 : Act} {w0 : World} (hm : P.follows .mixedOrders = true) (d : Nat → Nat) (m S : Nat) (fr : Nat → Bool) (fv : Nat → Value) (hmS : m ≠ S) (hS : S < l.length) (hfS : fr S = false) (hfm : fr m = false)
    (hp : litB l.toArray d S a0.tmps.size = true) (ho : orderB l.toArray = true) (hc : closedF l.toArray S fr = true)
    (R : World → Prop) (M : World → World → Prop) (hR0 : ∀ w, Below w0.heap.size w0 w → R w) (hRB : ∀ w w', R w → Below w.heap.size w w' → R w') (hRM : ∀ w w', Below w0.heap.size w0 w → M w w' → R w')
    (sp : Nat → Value → World → Prop) (mono : ∀ i v w w', sp i v w → Below w.heap.size w w' → sp i v w') (monoM : ∀ i v w w', i ≠ m → sp i v w → Below w0.heap.size w0 w → M w w' → sp i v w')
    (hop : FreeOk P Q R M l.toArray d sp fr fv m S a0 w0 l 0) :
    (Code.region id l.toArray true).wp P Q a0 w0 := by
  refine wp_region_any hm ?_
  have hd0 : Below w0.heap.size w0 { w0 with drawn := w0.drawn + 1 } := (Below.refl _ _).drew
  have hll : l.toArray.size = l.length := by simp
  have hspec := litB_spec hp
  refine wpAny_of_inv (fun listed a w => if listed.getD S false = true then FreeEnd l.toArray Q d fr fv sp S a0 listed a w else FreeInv l.toArray R d sp fr fv m S a0 w0 listed a w) (fun _ _ _ h => ?_) ?_ ?_ _ _ _ _ ?_ ?_
  · split at h
    · exact h.ls
    · exact h.ls
  · intro listed a w i h hi
    obtain ⟨h1, o, hoi, hdeps⟩ := mem_ready.1 hi
    have hilt : i < l.toArray.size := (Array.getElem?_eq_some_iff.1 hoi).1
    obtain ⟨e1, e2, e3⟩ := hspec i o hoi
    unfold wpOp
    simp only [hoi]
    have hw : Region.wanted o (yielded l.toArray a.tmps) = true := by simp [Region.wanted, e1]
    rw [if_pos hw]
    by_cases hLS : listed.getD S false = true
    · rw [if_pos hLS] at h
      have hli : listed.getD i false = false := by
        have : i < listed.size := by rw [h.ls]; exact hilt
        simp only [Array.getD_eq_getD_getElem?, Array.getElem?_eq_getElem this, Option.getD_some] at h1 ⊢
        exact h1
      have hfi : fr i = true := by
        cases hf : fr i with
        | true => rfl
        | false => rw [h.all i hilt hf] at hli; cases hli
      have hiS : i ≠ S := fun e => by rw [e, hfS] at hfi; cases hfi
      obtain ⟨aS, wS, x1, x2, x3, x4, x5⟩ := h.ex
      obtain ⟨f0, f1, f2⟩ := e3 hiS
      refine .inl (freeOk_at l 0 i o hop (by simpa using hoi) a w _ (fun q => by rw [Nat.zero_add, hfi] at q; cases q) (fun q => by rw [Nat.zero_add] at q; rw [q, hfm] at hfi; cases hfi)
        (fun e he hb hS' => ⟨fun q => h.fs _ (hdeps e he hb) q, fun q => ⟨⟨wS, x5 e.on (by rw [← h.ls]; exact listed_lt (hdeps e he hb)) q hS'⟩, fun q' => by rw [Nat.zero_add, hfi] at q'; cases q'⟩⟩) h.ks ?_ (fun q => by rw [Nat.zero_add] at q; exact absurd q hiS))
      rw [Nat.zero_add, if_neg hiS, if_pos hfi]
      have hSl : (listed.setIfInBounds i true).getD S false = true := by rw [listed_ne (Ne.symm hiS)]; exact hLS
      rw [if_pos hSl]
      refine ⟨by simpa using h.ls, fun j hj hfj => ?_, by simpa [Act.put] using h.sz, ⟨aS, wS, x1, x2, by simpa [Act.put] using x3, fun k hk => ?_, fun j hj hfj hjS => ?_⟩, fun j hj hfj => ?_, fun k hk => ?_⟩
      · have hji : j ≠ i := fun e => by rw [e, hfi] at hfj; cases hfj
        rw [listed_ne hji]; exact h.all j hj hfj
      · rw [getD_put _ _ _ _ (by rw [h.sz]; exact f1), if_neg (fun q => hk i hilt hfi q.symm)]; exact x4 k hk
      · have hji : i ≠ j := fun e => by rw [← e, hfi] at hfj; cases hfj
        rw [getD_put _ _ _ _ (by rw [h.sz]; exact f1), if_neg (fun q => f2 j hj hjS hji q.symm)]; exact x5 j hj hfj hjS
      · rw [getD_put _ _ _ _ (by rw [h.sz]; exact f1)]
        by_cases hji : j = i
        · subst hji; rw [if_pos rfl]
        · rw [listed_ne hji] at hj
          have hjl : j < l.toArray.size := by rw [← h.ls]; exact listed_lt hj
          have hjS : j ≠ S := fun e => by rw [e, hfS] at hfj; cases hfj
          rw [if_neg (fun q => f2 j hjl hjS (Ne.symm hji) q.symm)]; exact h.fs j hj hfj
      · have hne : k ≠ d i := fun q => by
          unfold outL at hk
          rw [List.all_eq_true] at hk
          have := hk i (List.mem_range.2 hilt)
          simp only [Bool.or_eq_true, decide_eq_true_eq] at this
          exact (this.resolve_left hiS) q.symm
        rw [getD_put _ _ _ _ (by rw [h.sz]; exact f1), if_neg hne]; exact h.ks k hk
    rw [if_neg hLS] at h
    have hli : listed.getD i false = false := by
      have : i < listed.size := by rw [h.ls]; exact hilt
      simp only [Array.getD_eq_getD_getElem?, Array.getElem?_eq_getElem this, Option.getD_some] at h1 ⊢
      exact h1
    have hlist : ∀ j, listed.getD j false = true → j < l.toArray.size := fun j hj => by rw [← h.ls]; exact listed_lt hj
    have hks : ∀ k, outL l.toArray d S k = true → a.tmps.getD k undef = a0.tmps.getD k undef := fun k hk => h.ks k fun j hj => by
      have hjl := hlist j hj
      have hjS : j ≠ S := fun e => by subst e; exact hLS hj
      unfold outL at hk
      rw [List.all_eq_true] at hk
      have := hk j (List.mem_range.2 hjl)
      simp only [Bool.or_eq_true, decide_eq_true_eq] at this
      exact this.resolve_left hjS
    have hall : i = S → ∀ j, j < l.toArray.size → fr j = false → j ≠ S → listed.getD j false = true := by
      intro hiS
      subst hiS
      have key : ∀ n j, l.toArray.size - j ≤ n → j < l.toArray.size → fr j = false → j ≠ i → listed.getD j false = true := by
        intro n
        induction n with
        | zero => intro j h1 h2; omega
        | succ n ih =>
          intro j h1 h2 hfj hji
          obtain ⟨j', o', hjj, hj'S, hfj', hoj, e, he, hon', hb⟩ := closedF_spec hc j h2 hfj hji
          have hj'l : j' < l.toArray.size := (Array.getElem?_eq_some_iff.1 hoj).1
          rw [← hon']
          by_cases hj'i : j' = i
          · subst hj'i
            obtain rfl : o' = o := by rw [hoi] at hoj; exact (Option.some.inj hoj).symm
            exact hdeps e he hb
          · exact h.dn j' o' (ih j' (by omega) hj'l hfj' hj'i) hoj e he hb
      exact fun j hj hf hji => key _ j (Nat.le_refl _) hj hf hji
    refine .inl (freeOk_at l 0 i o hop (by simpa using hoi) a w _ (fun _ => h.r) (fun him => h.bel (by rw [Nat.zero_add] at him; rw [← him]; exact hli)) (fun e he hb hS' => ⟨fun q => h.fs _ (hdeps e he hb) q, fun q => ⟨⟨w, h.vs _ (hdeps e he hb) q⟩, fun _ => h.vs _ (hdeps e he hb) q⟩⟩) hks ?_
      (fun hiS => ⟨fun j hj hf => h.vs j (hall (by omega) j (by omega) hf (by omega)) hf, h.sz, h.df⟩))
    rw [Nat.zero_add]
    by_cases hiS : i = S
    · rw [if_pos hiS]
      intro w' hQ
      have hSl : (listed.setIfInBounds i true).getD S false = true := by rw [← hiS]; exact listed_self (by rw [h.ls]; exact hilt)
      rw [if_pos hSl]
      refine ⟨by simpa using h.ls, fun j hj hf => ?_, h.sz, ⟨a, w, hQ, h.sz, rfl, fun _ _ => rfl, fun j hj hf hjS => h.vs j (hall hiS j hj hf hjS) hf⟩, fun j hj hf => ?_, hks⟩
      · by_cases hji : j = i
        · subst hji; exact listed_self (by rw [h.ls]; exact hilt)
        · rw [listed_ne hji]; exact hall hiS j hj hf (by omega)
      · have hji : j ≠ i := fun e => by rw [e, hiS, hfS] at hf; cases hf
        rw [listed_ne hji] at hj; exact h.fs j hj hf
    · rw [if_neg hiS]
      obtain ⟨f0, f1, f2⟩ := e3 hiS
      have hnS : (listed.setIfInBounds i true).getD S false = false := by rw [listed_ne (Ne.symm hiS)]; exact h.ns
      have common : ∀ (v : Value) (w' : World), (fr i = false → sp i v w') → (fr i = true → v = fv i) → R w' → (i ≠ m → listed.getD m false = false → Below w0.heap.size w0 w') → (∀ j, listed.getD j false = true → fr j = false → sp j (a.tmps.getD (d j) undef) w') → FreeInv l.toArray R d sp fr fv m S a0 w0 (listed.setIfInBounds i true) (a.put (some (d i)) v) w' := by
        intro v w' hv hvf hR hB hvs
        have hput : ∀ j, listed.getD j false = true → j ≠ i → (a.put (some (d i)) v).tmps.getD (d j) undef = a.tmps.getD (d j) undef := fun j hj hji => by
          have hjS : j ≠ S := fun e => by subst e; exact hLS hj
          rw [getD_put _ _ _ _ (by rw [h.sz]; exact f1), if_neg (fun k => f2 j (hlist j hj) hjS (Ne.symm hji) k.symm)]
        refine ⟨by simpa using h.ls, hR, fun hmm => ?_, by simpa [Act.put] using h.sz, by simpa [Act.put] using h.df, fun j hj hf => ?_, fun j hj hf => ?_, fun k hk => ?_, fun j o' hj hoj e he hb => ?_, hnS⟩
        · by_cases him : i = m
          · subst him; rw [listed_self (by rw [h.ls]; exact hilt)] at hmm; cases hmm
          · rw [listed_ne (Ne.symm him)] at hmm; exact hB him hmm
        · by_cases hji : j = i
          · subst hji
            rw [getD_put _ _ _ _ (by rw [h.sz]; exact f1), if_pos rfl]; exact hv hf
          · rw [listed_ne hji] at hj
            rw [hput j hj hji]; exact hvs j hj hf
        · by_cases hji : j = i
          · subst hji
            rw [getD_put _ _ _ _ (by rw [h.sz]; exact f1), if_pos rfl]; exact hvf hf
          · rw [listed_ne hji] at hj
            rw [hput j hj hji]; exact h.fs j hj hf
        · have hne : k ≠ d i := fun q => hk i (listed_self (by rw [h.ls]; exact hilt)) q.symm
          rw [getD_put _ _ _ _ (by rw [h.sz]; exact f1), if_neg hne]
          exact h.ks k fun j hj => hk j (by
            by_cases hji : j = i
            · subst hji; exact listed_self (by rw [h.ls]; exact hilt)
            · rw [listed_ne hji]; exact hj)
        · have hle : listed.getD e.on false = true → (listed.setIfInBounds i true).getD e.on false = true := fun q => by
            by_cases hei : e.on = i
            · rw [hei]; exact listed_self (by rw [h.ls]; exact hilt)
            · rw [listed_ne hei]; exact q
          by_cases hji : j = i
          · subst hji
            obtain rfl : o' = o := by rw [hoi] at hoj; exact (Option.some.inj hoj).symm
            exact hle (hdeps e he hb)
          · rw [listed_ne hji] at hj
            exact hle (h.dn j o' hj hoj e he hb)
      by_cases hfi : fr i = true
      · rw [if_pos hfi, if_neg (by rw [hnS]; simp)]
        exact common _ w (fun q => by rw [hfi] at q; cases q) (fun _ => rfl) h.r (fun _ hmm => h.bel hmm) h.vs
      · rw [if_neg hfi]
        have hfi' : fr i = false := by simpa using hfi
        by_cases him : i = m
        · rw [if_pos him]
          intro v w' hv hM
          rw [if_neg (by rw [hnS]; simp)]
          have hbel := h.bel (by rw [← him]; exact hli)
          refine common v w' (fun _ => hv) (fun q => absurd q hfi) (hRM _ _ hbel hM) (fun q => absurd him q) fun j hj hf => monoM _ _ _ _ (fun q => ?_) (h.vs j hj hf) hbel hM
          subst q; rw [him] at hli; rw [hli] at hj; cases hj
        · rw [if_neg him]
          intro v w' hv hbw
          rw [if_neg (by rw [hnS]; simp)]
          exact common v w' (fun _ => hv) (fun q => absurd q hfi) (hRB _ _ h.r hbw) (fun _ hmm => (h.bel hmm).trans (hbw.mono (h.bel hmm).size)) fun j hj hf => mono _ _ _ _ (h.vs j hj hf) hbw
  · intro listed a w h hr
    by_cases hLS : listed.getD S false = true
    · rw [if_pos hLS] at h
      obtain ⟨aS, wS, x1, x2, x3, x4, x5⟩ := h.ex
      refine x1 a ⟨by rw [h.sz, x2], x3, x4, fun i hi hf => h.fs i (all_listed ho listed hr h.ls i hi) hf⟩
    · rw [if_neg hLS] at h
      exact absurd (all_listed ho listed hr h.ls S (by omega)) hLS
  · unfold left
    exact Nat.le_trans (List.countP_le_length) (by simp)
  · have hf : ∀ i, (Array.replicate l.toArray.size false).getD i false = true → False := fun i hi => by
      simp only [Array.getD_eq_getD_getElem?, Array.getElem?_replicate] at hi
      split at hi <;> simp at hi
    rw [if_neg (fun q => hf _ q)]
    exact ⟨by simp, hR0 _ hd0, fun _ => hd0, rfl, rfl, fun i hi => absurd (hf i hi) (by simp), fun i hi => absurd (hf i hi) (by simp), fun _ _ => rfl, fun j _ hj => absurd (hf j hj) (by simp), by
      cases hq : (Array.replicate l.toArray.size false).getD S false with
      | false => rfl
      | true => exact absurd (hf S hq) (by simp)⟩
end
end Go.Proofs.Ytidoaccidmmalaa.MacP
