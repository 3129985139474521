/- Layer 16 (tree), plain facts: the best vectors' fixed point and what it is characterised by (best_own, best_step, best_att, best_nonneg, best_only, best_zero); rows each with at most one earlier segment are a forest (forest_by); the roles (firstMin, ownS, rootT, opn, roleT, treeP, L.tree); what stands open is a tree over the same parts (tree_loops, tree_lab). -/
import Derived.Test.YtgcmklliafcffaaLanA
namespace Go.Proofs.Ytgcmklliafcffaa.LanP
set_option linter.unusedVariables false
set_option maxRecDepth 100000
theorem parts_less (e : Int × Int) (E : List (Int × Int)) (n : Nat) (hE : ∀ x ∈ e :: E, 0 ≤ x.1 ∧ 0 ≤ x.2) (h1 : e.1 < n) (h2 : e.2 < n) (h : lab E e.1 ≠ lab E e.2) : partsN (e :: E) n + 1 = partsN E n := by
  obtain ⟨M, hM⟩ : ∃ M, max (lab E e.1) (lab E e.2) = M := ⟨_, rfl⟩
  have hE' : ∀ x ∈ E, 0 ≤ x.1 ∧ 0 ≤ x.2 := fun x hx => hE x (List.mem_cons_of_mem _ hx)
  have n1 := lab_nonneg E e.1 hE' (hE e (by simp)).1
  have n2 := lab_nonneg E e.2 hE' (hE e (by simp)).2
  have l1 := lab_le E e.1
  have l2 := lab_le E e.2
  have i1 := lab_idem E e.1
  have i2 := lab_idem E e.2
  have hfix : lab E M = M := by
    rcases (show M = lab E e.1 ∨ M = lab E e.2 by omega) with h | h <;> rw [h] <;> assumption
  have := cnt_less (p := fun s => decide (lab E s = s)) (x := M) (n := n)
  rw [if_pos ⟨by omega, by omega, by simpa using hfix⟩] at this
  unfold partsN
  rw [← this]
  congr 1
  refine cnt_congr fun s _ => ?_
  have is := lab_idem E (s : Int)
  rw [Bool.eq_iff_iff]
  simp only [decide_eq_true_eq, Bool.and_eq_true, bne_iff_ne]
  show mrg _ _ _ _ = _ ↔ _
  rcases mrg_cases (lab E) e.1 e.2 s with ⟨k, h3⟩ | ⟨k, h3, h4⟩
  · rw [k]
    constructor
    · intro hs
      rcases min_is (lab E e.1) (lab E e.2) with ⟨h4, _⟩ | ⟨h4, _⟩
      · rw [h4] at hs; rw [← hs]; exact ⟨i1, by omega⟩
      · rw [h4] at hs; rw [← hs]; exact ⟨i2, by omega⟩
    · rintro ⟨h5, h6⟩; rcases h3 with h3 | h3 <;> omega
  · rw [k]
    exact ⟨fun h5 => ⟨h5, fun h6 => by
      rw [h6] at h5 h3 h4
      rcases (show M = lab E e.1 ∨ M = lab E e.2 by omega) with h | h <;> omega⟩, fun h5 => h5.1⟩
/- Bests: of each bridge, by its neighbours', as often as there are bridges. -/
abbrev Bst : Type := Int × Int
def btr (x y : Bst) : Bool := decide (x.1 < y.1) || (decide (x.1 = y.1) && decide (x.2 < y.2))
def bl (x y : Bst) : Prop := x.1 < y.1 ∨ (x.1 = y.1 ∧ x.2 ≤ y.2)
theorem btr_iff {x y : Bst} : btr x y = true ↔ x.1 < y.1 ∨ (x.1 = y.1 ∧ x.2 < y.2) := by unfold btr; simp
theorem bl_refl (x : Bst) : bl x x := .inr ⟨rfl, Int.le_refl _⟩
theorem bl_trans {x y z : Bst} (h : bl x y) (k : bl y z) : bl x z := by unfold bl at *; omega
theorem bl_anti {x y : Bst} (h : bl x y) (k : bl y x) : x = y := by
  unfold bl at *
  have h1 : x.1 = y.1 := by omega
  have h2 : x.2 = y.2 := by omega
  exact Prod.ext h1 h2
theorem bl_of_not {x y : Bst} (h : btr x y = false) : bl y x := by
  have := mt btr_iff.2 (by rw [h]; simp)
  unfold bl; omega
theorem bl_of {x y : Bst} (h : btr x y = true) : bl x y := by have := btr_iff.1 h; unfold bl; omega
theorem bl_add {x y : Bst} {c : Int} (h : bl x y) : bl (x.1, x.2 + c) (y.1, y.2 + c) := by unfold bl at *; simp only; omega
/-- The least, from a first one on. -/
def least (o : Bst) (l : List Bst) : Bst := l.foldl (fun o w => if btr w o = true then w else o) o
theorem least_le : ∀ (l : List Bst) (o : Bst), bl (least o l) o ∧ ∀ w ∈ l, bl (least o l) w
  | [], o => ⟨bl_refl o, fun w h => by cases h⟩
  | a :: l, o => by
    show bl (least (if btr a o = true then a else o) l) o ∧ _
    by_cases h : btr a o = true
    · rw [if_pos h]
      obtain ⟨h1, h2⟩ := least_le l a
      have e : least o (a :: l) = least a l := by unfold least; rw [List.foldl_cons, if_pos h]
      refine ⟨bl_trans h1 (bl_of h), fun w hw => ?_⟩
      rw [e]
      rcases List.mem_cons.1 hw with rfl | hw
      · exact h1
      · exact h2 w hw
    · rw [if_neg h]
      obtain ⟨h1, h2⟩ := least_le l o
      have e : least o (a :: l) = least o l := by unfold least; rw [List.foldl_cons, if_neg h]
      refine ⟨h1, fun w hw => ?_⟩
      rw [e]
      rcases List.mem_cons.1 hw with rfl | hw
      · exact bl_trans h1 (bl_of_not (by simpa using h))
      · exact h2 w hw
theorem least_is : ∀ (l : List Bst) (o : Bst), least o l = o ∨ least o l ∈ l
  | [], o => .inl rfl
  | a :: l, o => by
    show least (if btr a o = true then a else o) l = o ∨ least (if btr a o = true then a else o) l ∈ a :: l
    by_cases h : btr a o = true
    · rw [if_pos h]
      rcases least_is l a with h1 | h1
      · right; rw [h1]; simp
      · right; exact List.mem_cons_of_mem _ h1
    · rw [if_neg h]
      rcases least_is l o with h1 | h1
      · left; exact h1
      · right; exact List.mem_cons_of_mem _ h1
def pl (l : L) (b : Nat) : P := l.plans.getD b default
def cand (l : L) (A : List Bst) (b : Nat) (x : Lk) (k : Nat) : List Bst := if (k != b && (x.up && joins (pl l k) x.seg)) = true then [((A.getD k (0, 0)).1, (A.getD k (0, 0)).2 + x.cost)] else []
def cands (l : L) (A : List Bst) (b : Nat) : List Bst := (pl l b).ports.flatMap fun x => (List.range l.plans.length).flatMap (cand l A b x)
def near (l : L) (A : List Bst) (b : Nat) : Bst := least (A.getD b (0, 0)) (cands l A b)
def bests (l : L) : Nat → List Bst
  | 0 => l.plans.map fun p => (p.id, 0)
  | i + 1 => (List.range l.plans.length).map (near l (bests l i))
def L.bs (l : L) : List Bst := bests l l.plans.length
def bB (l : L) (i b : Nat) : Bst := (bests l i).getD b (0, 0)
/-- An edge from a bridge to another one, and what it costs. -/
def Ed (l : L) (b k : Nat) (c : Int) : Prop := k < l.plans.length ∧ k ≠ b ∧ ∃ x ∈ (pl l b).ports, x.up = true ∧ joins (pl l k) x.seg = true ∧ x.cost = c
theorem mem_cands {l : L} {A : List Bst} {b : Nat} {w : Bst} : w ∈ cands l A b ↔ ∃ k c, Ed l b k c ∧ w = ((A.getD k (0, 0)).1, (A.getD k (0, 0)).2 + c) := by
  unfold cands Ed
  rw [List.mem_flatMap]
  constructor
  · rintro ⟨x, hx, h⟩
    rw [List.mem_flatMap] at h
    obtain ⟨k, hk, h⟩ := h
    unfold cand at h
    split at h
    · rename_i hc
      simp only [Bool.and_eq_true, bne_iff_ne] at hc
      exact ⟨k, x.cost, ⟨List.mem_range.1 hk, hc.1, x, hx, hc.2.1, hc.2.2, rfl⟩, List.mem_singleton.1 h⟩
    · cases h
  · rintro ⟨k, c, ⟨hk, hne, x, hx, h1, h2, rfl⟩, rfl⟩
    refine ⟨x, hx, ?_⟩
    rw [List.mem_flatMap]
    refine ⟨k, List.mem_range.2 hk, ?_⟩
    unfold cand
    rw [if_pos (by simp [hne, h1, h2])]
    simp
theorem bests_len (l : L) : ∀ i, (bests l i).length = l.plans.length
  | 0 => by unfold bests; simp
  | i + 1 => by unfold bests; simp
theorem bB_zero {l : L} {b : Nat} (hb : b < l.plans.length) : bB l 0 b = ((pl l b).id, 0) := by
  unfold bB bests pl
  rw [List.getD_eq_getElem?_getD, List.getElem?_map, List.getD_eq_getElem?_getD, List.getElem?_eq_getElem hb]; rfl
theorem bB_succ {l : L} {i b : Nat} (hb : b < l.plans.length) : bB l (i + 1) b = least (bB l i b) (cands l (bests l i) b) := by
  unfold bB
  conv => lhs; unfold bests
  rw [List.getD_eq_getElem?_getD, List.getElem?_map, List.getElem?_range hb]; rfl
theorem bB_mono {l : L} {b : Nat} (hb : b < l.plans.length) (i : Nat) : bl (bB l (i + 1) b) (bB l i b) := by rw [bB_succ hb]; exact (least_le _ _).1
theorem bB_monos {l : L} {b : Nat} (hb : b < l.plans.length) (i : Nat) : ∀ j, bl (bB l (i + j) b) (bB l i b)
  | 0 => bl_refl _
  | j + 1 => bl_trans (bB_mono hb (i + j)) (bB_monos hb i j)
theorem bB_step {l : L} {b k : Nat} {c : Int} (hb : b < l.plans.length) (h : Ed l b k c) (i : Nat) : bl (bB l (i + 1) b) ((bB l i k).1, (bB l i k).2 + c) := by
  rw [bB_succ hb]
  exact (least_le _ _).2 _ (mem_cands.2 ⟨k, c, h, rfl⟩)
theorem bB_att {l : L} {b : Nat} (hb : b < l.plans.length) (i : Nat) : bB l (i + 1) b = bB l i b ∨ ∃ k c, Ed l b k c ∧ bB l (i + 1) b = ((bB l i k).1, (bB l i k).2 + c) := by
  rw [bB_succ hb]
  rcases least_is (cands l (bests l i) b) (bB l i b) with h | h
  · exact .inl h
  · right; exact mem_cands.1 h
theorem pigeon : ∀ (m : Nat) (f : Nat → Nat), (∀ j, j ≤ m → f j < m) → ∃ p q, p < q ∧ q ≤ m ∧ f p = f q
  | 0, f, h => by have := h 0 (Nat.le_refl _); omega
  | m + 1, f, h => by
    by_cases hx : ∃ p, p ≤ m ∧ f p = f (m + 1)
    · obtain ⟨p, h1, h2⟩ := hx
      exact ⟨p, m + 1, by omega, Nat.le_refl _, h2⟩
    · have hv : ∀ p, p ≤ m → f p ≠ f (m + 1) := fun p hp e => hx ⟨p, hp, e⟩
      have hlast := h (m + 1) (Nat.le_refl _)
      obtain ⟨p, q, h1, h2, h3⟩ := pigeon m (fun j => if f j = m then f (m + 1) else f j) (fun j hj => by
        have a := h j (by omega)
        have b := hv j hj
        show (if f j = m then f (m + 1) else f j) < m
        split
        · rename_i e; omega
        · rename_i e; omega)
      have h3 : (if f p = m then f (m + 1) else f p) = (if f q = m then f (m + 1) else f q) := h3
      refine ⟨p, q, h1, by omega, ?_⟩
      have bp := hv p (by omega)
      have bq := hv q (by omega)
      split at h3 <;> split at h3
      · rename_i e1 e2; rw [e1, e2]
      · exact absurd h3.symm bq
      · exact absurd h3 bp
      · exact h3
/-- What changes so late has changed each round, along a row of bridges. -/
theorem chain {l : L} (hc : ∀ b k c, Ed l b k c → 0 < c) : ∀ (i b : Nat), b < l.plans.length → bB l (i + 1) b ≠ bB l i b →
    ∃ f : Nat → Nat, f (i + 1) = b ∧ (∀ j, j ≤ i + 1 → f j < l.plans.length) ∧ ∀ j, j ≤ i → (bB l (j + 1) (f (j + 1))).1 = (bB l j (f j)).1 ∧ (bB l j (f j)).2 < (bB l (j + 1) (f (j + 1))).2
  | i, b, hb, hne => by
    obtain ⟨k, c, he, hk⟩ := (bB_att hb i).resolve_left hne
    have hpos := hc b k c he
    cases i with
    | zero =>
      refine ⟨fun j => if j = 1 then b else k, rfl, fun j hj => ?_, fun j hj => ?_⟩
      · show (if j = 1 then b else k) < _
        split
        · exact hb
        · exact he.1
      · obtain rfl : j = 0 := by omega
        show (bB l 1 b).1 = (bB l 0 k).1 ∧ (bB l 0 k).2 < (bB l 1 b).2
        have hk : bB l 1 b = ((bB l 0 k).1, (bB l 0 k).2 + c) := hk
        exact ⟨by rw [hk], by rw [hk]; show _ < _ + c; omega⟩
    | succ i =>
      have hch : bB l (i + 1) k ≠ bB l i k := fun e => hne (by
        refine bl_anti (bB_mono hb _) ?_
        have := bB_step hb he i
        rw [← e] at this
        rw [hk]; exact this)
      obtain ⟨f, h1, h2, h3⟩ := chain hc i k he.1 hch
      refine ⟨fun j => if j = i + 2 then b else f j, by simp, fun j hj => ?_, fun j hj => ?_⟩
      · show (if j = i + 2 then b else f j) < _
        split
        · exact hb
        · exact h2 j (by omega)
      · show (bB l (j + 1) (if j + 1 = i + 2 then b else f (j + 1))).1 = (bB l j (if j = i + 2 then b else f j)).1 ∧ (bB l j (if j = i + 2 then b else f j)).2 < (bB l (j + 1) (if j + 1 = i + 2 then b else f (j + 1))).2
        rw [if_neg (by omega : ¬ j = i + 2)]
        by_cases e : j + 1 = i + 2
        · rw [if_pos e]
          obtain rfl : j = i + 1 := by omega
          rw [h1]
          have hk : bB l (i + 1 + 1) b = ((bB l (i + 1) k).1, (bB l (i + 1) k).2 + c) := hk
          exact ⟨by rw [hk], by rw [hk]; show _ < _ + c; omega⟩
        · rw [if_neg e]; exact h3 j (by omega)
theorem chain_root {l : L} {f : Nat → Nat} {i : Nat} (h : ∀ j, j ≤ i → (bB l (j + 1) (f (j + 1))).1 = (bB l j (f j)).1 ∧ (bB l j (f j)).2 < (bB l (j + 1) (f (j + 1))).2) (p : Nat) : ∀ d, p + d ≤ i → (bB l (p + d + 1) (f (p + d + 1))).1 = (bB l p (f p)).1 ∧ (bB l p (f p)).2 < (bB l (p + d + 1) (f (p + d + 1))).2
  | 0, hp => h p (by omega)
  | d + 1, hp => by
    have ih := chain_root h p d (by omega)
    have := h (p + d + 1) (by omega)
    have e : p + (d + 1) + 1 = p + d + 1 + 1 := by omega
    rw [e]
    omega
theorem bB_still {l : L} (hc : ∀ b k c, Ed l b k c → 0 < c) {b : Nat} (hb : b < l.plans.length) : bB l (l.plans.length + 1) b = bB l l.plans.length b := by
  refine Classical.byContradiction fun hne => ?_
  obtain ⟨f, h1, h2, h3⟩ := chain hc _ b hb hne
  obtain ⟨p, q, hpq, hq, hf⟩ := pigeon l.plans.length f (fun j hj => h2 j (by omega))
  have := chain_root h3 p (q - p - 1) (by omega)
  rw [show p + (q - p - 1) + 1 = q by omega] at this
  have hm := bB_monos (h2 q (by omega)) p (q - p)
  rw [show p + (q - p) = q by omega, ← hf] at hm
  rw [← hf] at this
  unfold bl at hm
  omega
/-- The best of a bridge. -/
def L.best (l : L) (b : Nat) : Bst := bB l l.plans.length b
theorem best_own {l : L} {b : Nat} (hb : b < l.plans.length) : bl (l.best b) ((pl l b).id, 0) := by
  have := bB_monos hb 0 l.plans.length
  rw [Nat.zero_add, bB_zero hb] at this
  exact this
theorem best_step {l : L} (hc : ∀ b k c, Ed l b k c → 0 < c) {b k : Nat} {c : Int} (hb : b < l.plans.length) (h : Ed l b k c) : bl (l.best b) ((l.best k).1, (l.best k).2 + c) := by
  have := bB_step hb h l.plans.length
  rw [bB_still hc hb] at this
  exact this
theorem bB_from {l : L} {b : Nat} (hb : b < l.plans.length) : ∀ i, bB l i b = ((pl l b).id, 0) ∨ ∃ k c, Ed l b k c ∧ bl ((bB l i k).1, (bB l i k).2 + c) (bB l i b)
  | 0 => .inl (bB_zero hb)
  | i + 1 => by
    rcases bB_att hb i with h | ⟨k, c, he, h⟩
    · rcases bB_from hb i with h2 | ⟨k, c, he, h2⟩
      · left; rw [h, h2]
      · right
        refine ⟨k, c, he, ?_⟩
        rw [h]
        exact bl_trans (bl_add (bB_mono he.1 i)) h2
    · right
      refine ⟨k, c, he, ?_⟩
      rw [h]
      exact bl_add (bB_mono he.1 i)
theorem best_att {l : L} (hc : ∀ b k c, Ed l b k c → 0 < c) {b : Nat} (hb : b < l.plans.length) : l.best b = ((pl l b).id, 0) ∨ ∃ k c, Ed l b k c ∧ l.best b = ((l.best k).1, (l.best k).2 + c) := by
  rcases bB_from hb l.plans.length with h | ⟨k, c, he, h⟩
  · exact .inl h
  · exact .inr ⟨k, c, he, bl_anti (best_step hc hb he) h⟩
theorem best_nonneg {l : L} (hc : ∀ b k c, Ed l b k c → 0 < c) : ∀ (i b : Nat), b < l.plans.length → 0 ≤ (bB l i b).2
  | 0, b, hb => by rw [bB_zero hb]; simp
  | i + 1, b, hb => by
    rcases bB_att hb i with h | ⟨k, c, he, h⟩
    · rw [h]; exact best_nonneg hc i b hb
    · rw [h]
      have := best_nonneg hc i k he.1
      have := hc b k c he
      simp only; omega
/-- Whoever keeps the three rules is the best. -/
theorem best_only {l : L} (hc : ∀ b k c, Ed l b k c → 0 < c) {g : Nat → Bst} (g1 : ∀ b, b < l.plans.length → bl (g b) ((pl l b).id, 0)) (g2 : ∀ b k c, b < l.plans.length → Ed l b k c → bl (g b) ((g k).1, (g k).2 + c))
    (g3 : ∀ b, b < l.plans.length → g b = ((pl l b).id, 0) ∨ ∃ k c, Ed l b k c ∧ g b = ((g k).1, (g k).2 + c)) (g4 : ∀ b, b < l.plans.length → 0 ≤ (g b).2) : ∀ b, b < l.plans.length → g b = l.best b := by
  have key : ∀ (f h : Nat → Bst), (∀ b, b < l.plans.length → bl (f b) ((pl l b).id, 0)) → (∀ b k c, b < l.plans.length → Ed l b k c → bl (f b) ((f k).1, (f k).2 + c)) →
      (∀ b, b < l.plans.length → h b = ((pl l b).id, 0) ∨ ∃ k c, Ed l b k c ∧ h b = ((h k).1, (h k).2 + c)) → (∀ b, b < l.plans.length → 0 ≤ (h b).2) → ∀ (n b : Nat), b < l.plans.length → (h b).2.toNat ≤ n → bl (f b) (h b) := by
    intro f h f1 f2 h3 h4 n
    induction n with
    | zero =>
      intro b hb hn
      rcases h3 b hb with e | ⟨k, c, he, e⟩
      · rw [e]; exact f1 b hb
      · have a := hc b k c he
        have b' := h4 k he.1
        rw [e] at hn
        simp only at hn
        omega
    | succ n ih =>
      intro b hb hn
      rcases h3 b hb with e | ⟨k, c, he, e⟩
      · rw [e]; exact f1 b hb
      · have a := hc b k c he
        have b' := h4 k he.1
        rw [e] at hn ⊢
        simp only at hn
        exact bl_trans (f2 b k c hb he) (bl_add (ih k he.1 (by omega)))
  intro b hb
  refine bl_anti (key g l.best g1 g2 (fun b hb => best_att hc hb) (fun b hb => best_nonneg hc _ b hb) _ b hb (Nat.le_refl _)) (key l.best g (fun b hb => best_own hb) (fun b k c hb he => best_step hc hb he) g3 g4 _ b hb (Nat.le_refl _))
theorem best_zero {l : L} (hc : ∀ b k c, Ed l b k c → 0 < c) {b : Nat} (hb : b < l.plans.length) : (l.best b).2 = 0 ↔ (l.best b).1 = (pl l b).id := by
  have h0 := best_nonneg hc l.plans.length b hb
  constructor
  · intro h
    rcases best_att hc hb with e | ⟨k, c, he, e⟩
    · rw [e]
    · have := hc b k c he
      have h1 := best_nonneg hc l.plans.length k he.1
      have e2 : (l.best b).2 = (l.best k).2 + c := by rw [e]
      unfold L.best at *
      omega
  · intro h
    have := best_own hb
    unfold bl at this
    unfold L.best at *
    simp only at this
    omega
/- A forest: rows of segments, each with at most one that an earlier row has. -/
def joinAll (us : List (List Int)) : List (Int × Int) := us.flatMap adj
/-- Alone: no pair has it. -/
def alone (E : List (Int × Int)) (s : Int) : Prop := ∀ e ∈ E, e.1 ≠ s ∧ e.2 ≠ s
theorem lab_alone {E : List (Int × Int)} {s : Int} (h : alone E s) : lab E s = s := by
  have := lab_univ (fun t => decide (t = s)) E (fun e he => by
    have := h e he
    rw [decide_eq_false this.1, decide_eq_false this.2]) s
  simpa using this
theorem lab_alone_eq {E : List (Int × Int)} {s t : Int} (h : alone E s) (ht : lab E t = s) : t = s := by
  have := lab_univ (fun t => decide (t = s)) E (fun e he => by
    have := h e he
    rw [decide_eq_false this.1, decide_eq_false this.2]) t
  rw [ht] at this
  simpa using this
/-- A row whose elements but one are alone: each of its pairs joins two parts. -/
theorem chain_parts (E : List (Int × Int)) (n : Nat) (hE : ∀ e ∈ E, 0 ≤ e.1 ∧ 0 ≤ e.2) : ∀ (u : List Int), u.Nodup → (∀ s ∈ u, 0 ≤ s ∧ s < n) → (∃ x, ∀ s ∈ u, s ≠ x → alone E s) → partsN (adj u ++ E) n + (adj u).length = partsN E n
  | [], _, _, _ => by simp [adj]
  | [x], _, _, _ => by simp [adj]
  | x :: y :: l, hd, hn, hx => by
    rw [List.nodup_cons] at hd
    have hx' : ∃ z, ∀ s ∈ y :: l, s ≠ z → alone E s := by
      obtain ⟨z, hz⟩ := hx
      exact ⟨z, fun s hs => hz s (List.mem_cons_of_mem _ hs)⟩
    have ih := chain_parts E n hE (y :: l) hd.2 (fun s hs => hn s (List.mem_cons_of_mem _ hs)) hx'
    have hbd : ∀ e ∈ (x, y) :: (adj (y :: l) ++ E), 0 ≤ e.1 ∧ 0 ≤ e.2 := fun e he => by
      rcases List.mem_cons.1 he with rfl | he
      · exact ⟨(hn x (by simp)).1, (hn y (by simp)).1⟩
      · rcases List.mem_append.1 he with he | he
        · obtain ⟨h1, h2⟩ := adj_mem he
          exact ⟨(hn _ (List.mem_cons_of_mem _ h1)).1, (hn _ (List.mem_cons_of_mem _ h2)).1⟩
        · exact hE e he
    have hne : lab (adj (y :: l) ++ E) x ≠ lab (adj (y :: l) ++ E) y := by
      obtain ⟨z, hz⟩ := hx
      by_cases hxz : x = z
      · -- all of y :: l are alone: what is joined with y is of the row
        subst hxz
        intro he
        have hg := lab_univ (fun t => decide (t ∈ y :: l)) (adj (y :: l) ++ E) (fun e he => by
          rcases List.mem_append.1 he with he | he
          · obtain ⟨h1, h2⟩ := adj_mem he
            rw [decide_eq_true h1, decide_eq_true h2]
          · have h1 : ¬ e.1 ∈ y :: l := fun hm => (hz _ (List.mem_cons_of_mem _ hm) (fun hq => hd.1 (hq ▸ hm)) e he).1 rfl
            have h2 : ¬ e.2 ∈ y :: l := fun hm => (hz _ (List.mem_cons_of_mem _ hm) (fun hq => hd.1 (hq ▸ hm)) e he).2 rfl
            rw [decide_eq_false h1, decide_eq_false h2])
        have h1 := hg x
        have h2 := hg y
        rw [he] at h1
        rw [h1] at h2
        have h3 : (decide (x ∈ y :: l)) = true := by rw [h2]; simp
        exact hd.1 (of_decide_eq_true h3)
      · have ha : alone (adj (y :: l) ++ E) x := fun e he => by
          rcases List.mem_append.1 he with he | he
          · obtain ⟨h1, h2⟩ := adj_mem he
            exact ⟨fun hq => hd.1 (hq ▸ h1), fun hq => hd.1 (hq ▸ h2)⟩
          · exact hz x (by simp) hxz e he
        intro he
        rw [lab_alone ha] at he
        have := lab_alone_eq ha he.symm
        exact hd.1 (by rw [← this]; simp)
    have hp := parts_cons (x, y) (adj (y :: l) ++ E) n hbd (hn x (by simp)).2 (hn y (by simp)).2
    have hp2 : partsN ((x, y) :: (adj (y :: l) ++ E)) n + 1 = partsN (adj (y :: l) ++ E) n := parts_less (x, y) _ n hbd (hn x (by simp)).2 (hn y (by simp)).2 hne
    show partsN ((x, y) :: (adj (y :: l) ++ E)) n + (adj (y :: l)).length.succ = _
    omega
/-- Rows in an order in which each has at most one segment of the earlier ones. -/
theorem forest (n : Nat) : ∀ (us : List (List Int)), (∀ u ∈ us, u.Nodup) → (∀ u ∈ us, ∀ s ∈ u, 0 ≤ s ∧ s < n) → us.Pairwise (fun _ _ => True) →
    (∀ (a : List Int) (us1 us2 : List (List Int)), us = us1 ++ a :: us2 → ∃ x, ∀ s ∈ a, s ≠ x → ∀ u ∈ us2, s ∉ u) → partsN (joinAll us) n + (joinAll us).length = n
  | [], _, _, _, _ => by rw [show joinAll [] = [] from rfl, parts_nil]; simp
  | a :: us, hd, hn, _, hf => by
    have ih := forest n us (fun u hu => hd u (List.mem_cons_of_mem _ hu)) (fun u hu => hn u (List.mem_cons_of_mem _ hu)) (List.pairwise_of_forall (fun _ _ => trivial)) (fun b us1 us2 e => hf b (a :: us1) us2 (by rw [e]; rfl))
    obtain ⟨x, hx⟩ := hf a [] us rfl
    have hE : ∀ e ∈ joinAll us, 0 ≤ e.1 ∧ 0 ≤ e.2 := fun e he => by
      unfold joinAll at he
      obtain ⟨u, hu, he⟩ := List.mem_flatMap.1 he
      obtain ⟨h1, h2⟩ := adj_mem he
      exact ⟨(hn u (List.mem_cons_of_mem _ hu) _ h1).1, (hn u (List.mem_cons_of_mem _ hu) _ h2).1⟩
    have := chain_parts (joinAll us) n hE a (hd a (by simp)) (hn a (by simp)) ⟨x, fun s hs hne e he => by
      unfold joinAll at he
      obtain ⟨u, hu, he⟩ := List.mem_flatMap.1 he
      obtain ⟨h1, h2⟩ := adj_mem he
      exact ⟨fun hq => hx s hs hne u hu (hq ▸ h1), fun hq => hx s hs hne u hu (hq ▸ h2)⟩⟩
    show partsN (adj a ++ joinAll us) n + (adj a ++ joinAll us).length = n
    rw [List.length_append]
    omega
theorem joinAll_perm {us vs : List (List Int)} (h : us.Perm vs) : (joinAll us).length = (joinAll vs).length ∧ ∀ s, lab (joinAll us) s = lab (joinAll vs) s := by
  have hp : (joinAll us).Perm (joinAll vs) := h.flatMap_right adj
  exact ⟨hp.length_eq, lab_ext (fun e he => lab_join _ _ (hp.subset he)) (fun e he => lab_join _ _ (hp.symm.subset he))⟩
/-- The same in whatever order, by a number for each row: what a row has of others with no greater number is one segment at most. -/
theorem forest_by {ι : Type} (n : Nat) (is : List ι) (u : ι → List Int) (w : ι → Int) (hd : ∀ i ∈ is, (u i).Nodup) (hn : ∀ i ∈ is, ∀ s ∈ u i, 0 ≤ s ∧ s < n) (hnd : is.Nodup)
    (hf : ∀ i ∈ is, ∃ x, ∀ s ∈ u i, s ≠ x → ∀ j ∈ is, j ≠ i → w j ≤ w i → s ∉ u j) : partsN (joinAll (is.map u)) n + (joinAll (is.map u)).length = n := by
  obtain ⟨js, hp, hsort⟩ : ∃ js : List ι, js.Perm is ∧ js.Pairwise (fun a b => w b ≤ w a) :=
    ⟨is.mergeSort (fun a b => decide (w b ≤ w a)), List.mergeSort_perm _ _, by
      have := List.pairwise_mergeSort (le := fun a b => decide (w b ≤ w a)) (fun a b c h1 h2 => by simp only [decide_eq_true_eq] at *; omega) (fun a b => by simp only [Bool.or_eq_true, decide_eq_true_eq]; omega) is
      exact this.imp (fun h => by simpa using h)⟩
  obtain ⟨e1, e2⟩ := joinAll_perm (hp.map u)
  rw [← e1, ← parts_congr (n := n) e2]
  have hjn : js.Nodup := hp.nodup_iff.2 hnd
  refine forest n (js.map u) (fun v hv => ?_) (fun v hv => ?_) (List.pairwise_of_forall (fun _ _ => trivial)) (fun a us1 us2 e => ?_)
  · obtain ⟨i, hi, rfl⟩ := List.mem_map.1 hv
    exact hd i (hp.subset hi)
  · obtain ⟨i, hi, rfl⟩ := List.mem_map.1 hv
    exact hn i (hp.subset hi)
  · obtain ⟨l1, l2, rfl, h1, h2⟩ := List.map_eq_append_iff.1 e
    obtain ⟨i, l3, rfl, rfl, rfl⟩ := List.map_eq_cons_iff.1 h2
    obtain ⟨x, hx⟩ := hf i (hp.subset (by simp))
    refine ⟨x, fun s hs hne v hv => ?_⟩
    obtain ⟨j, hj, rfl⟩ := List.mem_map.1 hv
    rw [List.pairwise_append] at hsort
    have hle := (List.pairwise_cons.1 hsort.2.1).1 j hj
    have hji : j ≠ i := fun q => by
      rw [List.nodup_append] at hjn
      exact (List.nodup_cons.1 hjn.2.1).1 (q ▸ hj)
    exact hx s hs hne j (hp.subset (by simp [hj])) hji hle
/- Roles. -/
abbrev Vt : Type := Int × Int × Int × Int
def vb (x y : Vt) : Bool := decide (x.1 < y.1 ∨ (x.1 = y.1 ∧ (x.2.1 < y.2.1 ∨ (x.2.1 = y.2.1 ∧ (x.2.2.1 < y.2.2.1 ∨ (x.2.2.1 = y.2.2.1 ∧ x.2.2.2 < y.2.2.2))))))
theorem vb_iff {x y : Vt} : vb x y = true ↔ x.1 < y.1 ∨ (x.1 = y.1 ∧ (x.2.1 < y.2.1 ∨ (x.2.1 = y.2.1 ∧ (x.2.2.1 < y.2.2.1 ∨ (x.2.2.1 = y.2.2.1 ∧ x.2.2.2 < y.2.2.2))))) := by unfold vb; simp
/-- The first of the least. -/
def firstMin {α : Type} (f : α → Vt) (l : List α) (o : Option α) : Option α := l.foldl (fun o p => match o with | none => some p | some q => if vb (f p) (f q) = true then some p else some q) o
theorem firstMin_from {α : Type} (f : α → Vt) : ∀ (l : List α) (q : α), ∃ p, firstMin f l (some q) = some p ∧ (p = q ∨ p ∈ l) ∧ vb (f q) (f p) = false ∧ ∀ r ∈ l, vb (f r) (f p) = false
  | [], q => ⟨q, rfl, .inl rfl, by
    cases h : vb (f q) (f q) with
    | false => rfl
    | true => have := vb_iff.1 h; omega, fun r h => by cases h⟩
  | a :: l, q => by
    have tr : ∀ x y z : Vt, vb x y = false → vb y z = false → vb x z = false := fun x y z h k => by
      have a := mt vb_iff.2 (by rw [h]; simp)
      have b := mt vb_iff.2 (by rw [k]; simp)
      cases hh : vb x z with
      | false => rfl
      | true => have := vb_iff.1 hh; omega
    by_cases h : vb (f a) (f q) = true
    · obtain ⟨p, h1, h2, h3, h4⟩ := firstMin_from f l a
      refine ⟨p, ?_, ?_, ?_, fun r hr => ?_⟩
      · show firstMin f l (if vb (f a) (f q) = true then some a else some q) = _
        rw [if_pos h]; exact h1
      · rcases h2 with rfl | h2
        · right; simp
        · right; exact List.mem_cons_of_mem _ h2
      · refine tr _ (f a) _ ?_ h3
        cases hh : vb (f q) (f a) with
        | false => rfl
        | true => have x := vb_iff.1 hh; have y := vb_iff.1 h; omega
      · rcases List.mem_cons.1 hr with rfl | hr
        · exact h3
        · exact h4 r hr
    · obtain ⟨p, h1, h2, h3, h4⟩ := firstMin_from f l q
      refine ⟨p, ?_, ?_, h3, fun r hr => ?_⟩
      · show firstMin f l (if vb (f a) (f q) = true then some a else some q) = _
        rw [if_neg h]; exact h1
      · rcases h2 with h2 | h2
        · exact .inl h2
        · right; exact List.mem_cons_of_mem _ h2
      · rcases List.mem_cons.1 hr with rfl | hr
        · exact tr _ (f q) _ (by simpa using h) h3
        · exact h4 r hr
theorem firstMin_none {α : Type} {f : α → Vt} {l : List α} : firstMin f l none = none ↔ l = [] := by
  cases l with
  | nil => exact ⟨fun _ => rfl, fun _ => rfl⟩
  | cons a l =>
    obtain ⟨p, h1, _⟩ := firstMin_from f l a
    have : firstMin f (a :: l) none = firstMin f l (some a) := rfl
    rw [this, h1]
    constructor <;> intro h <;> cases h
theorem firstMin_some {α : Type} {f : α → Vt} {l : List α} {p : α} (h : firstMin f l none = some p) : p ∈ l ∧ ∀ r ∈ l, vb (f r) (f p) = false := by
  cases l with
  | nil => cases h
  | cons a l =>
    obtain ⟨q, h1, h2, h3, h4⟩ := firstMin_from f l a
    have e : firstMin f (a :: l) none = firstMin f l (some a) := rfl
    rw [e, h1] at h
    obtain rfl := Option.some.inj h
    refine ⟨?_, fun r hr => ?_⟩
    · rcases h2 with rfl | h2
      · simp
      · exact List.mem_cons_of_mem _ h2
    · rcases List.mem_cons.1 hr with rfl | hr
      · exact h3
      · exact h4 r hr
def prt (l : L) (b k : Nat) : Lk := (pl l b).ports.getD k default
def told (l : L) (p : Nat × Nat) : Vt := ((l.best p.1).1, (l.best p.1).2, (pl l p.1).id, (p.2 : Int))
def onS (l : L) (s : Int) : List (Nat × Nat) := (List.range l.plans.length).flatMap fun b => ((List.range (pl l b).ports.length).filter fun k => (prt l b k).up && (prt l b k).seg == s).map fun k => (b, k)
def ownS (l : L) (s : Int) : Option (Nat × Nat) := firstMin (told l) (onS l s) none
theorem mem_onS {l : L} {s : Int} {p : Nat × Nat} : p ∈ onS l s ↔ p.1 < l.plans.length ∧ p.2 < (pl l p.1).ports.length ∧ (prt l p.1 p.2).up = true ∧ (prt l p.1 p.2).seg = s := by
  unfold onS
  rw [List.mem_flatMap]
  constructor
  · rintro ⟨b, hb, h⟩
    obtain ⟨k, hk, rfl⟩ := List.mem_map.1 h
    rw [List.mem_filter, List.mem_range, Bool.and_eq_true, beq_iff_eq] at hk
    exact ⟨List.mem_range.1 hb, hk.1, hk.2.1, hk.2.2⟩
  · rintro ⟨h1, h2, h3, h4⟩
    refine ⟨p.1, List.mem_range.2 h1, List.mem_map.2 ⟨p.2, ?_, rfl⟩⟩
    rw [List.mem_filter, List.mem_range, Bool.and_eq_true, beq_iff_eq]
    exact ⟨h2, h3, h4⟩
theorem prt_mem {l : L} {b k : Nat} (hk : k < (pl l b).ports.length) : prt l b k ∈ (pl l b).ports := by
  unfold prt; rw [List.getD_eq_getElem?_getD, List.getElem?_eq_getElem hk]; exact List.getElem_mem hk
theorem mem_prt {l : L} {b : Nat} {x : Lk} (hx : x ∈ (pl l b).ports) : ∃ k, k < (pl l b).ports.length ∧ prt l b k = x := by
  obtain ⟨k, hk, rfl⟩ := List.mem_iff_getElem.1 hx
  exact ⟨k, hk, by unfold prt; rw [List.getD_eq_getElem?_getD, List.getElem?_eq_getElem hk]; rfl⟩
theorem joins_at {l : L} {b k : Nat} (hk : k < (pl l b).ports.length) (hu : (prt l b k).up = true) : joins (pl l b) (prt l b k).seg = true := by
  unfold joins
  rw [List.any_eq_true]
  exact ⟨_, prt_mem hk, by simp [hu]⟩
theorem at_joins {l : L} {b : Nat} {s : Int} (h : joins (pl l b) s = true) : ∃ k, k < (pl l b).ports.length ∧ (prt l b k).up = true ∧ (prt l b k).seg = s := by
  unfold joins at h
  rw [List.any_eq_true] at h
  obtain ⟨x, hx, h⟩ := h
  obtain ⟨k, hk, rfl⟩ := mem_prt hx
  rw [Bool.and_eq_true, beq_iff_eq] at h
  exact ⟨k, hk, h.1, h.2⟩
theorem own_mem {l : L} {s : Int} {p : Nat × Nat} (h : ownS l s = some p) : p ∈ onS l s := (firstMin_some h).1
theorem own_some {l : L} {s : Int} {p : Nat × Nat} (h : p ∈ onS l s) : ∃ q, ownS l s = some q := by
  cases hq : ownS l s with
  | some q => exact ⟨q, rfl⟩
  | none =>
    unfold ownS at hq
    rw [firstMin_none.1 hq] at h
    cases h
/-- The owner's best is none worse than any other's there. -/
theorem own_best {l : L} {s : Int} {p q : Nat × Nat} (h : ownS l s = some p) (hq : q ∈ onS l s) : bl (l.best p.1) (l.best q.1) := by
  have := (firstMin_some h).2 q hq
  have := mt vb_iff.2 (by rw [this]; simp)
  unfold told at this
  unfold bl
  simp only at this
  omega
/-- What a plan must keep for what follows. -/
structure Fine (l : L) : Prop where
  cost : ∀ b k c, Ed l b k c → 0 < c
  ids : ∀ a b, a < l.plans.length → b < l.plans.length → (pl l a).id = (pl l b).id → a = b
theorem ed_of {l : L} {s : Int} {p q : Nat × Nat} (hp : p ∈ onS l s) (hq : q ∈ onS l s) (hne : q.1 ≠ p.1) : Ed l p.1 q.1 (prt l p.1 p.2).cost := by
  obtain ⟨a1, a2, a3, a4⟩ := mem_onS.1 hp
  obtain ⟨b1, b2, b3, b4⟩ := mem_onS.1 hq
  refine ⟨b1, hne, _, prt_mem a2, a3, ?_, rfl⟩
  rw [a4, ← b4]
  exact joins_at b2 b3
theorem root_same {l : L} (hF : Fine l) {s : Int} {p q : Nat × Nat} (hp : p ∈ onS l s) (hq : q ∈ onS l s) : (l.best p.1).1 = (l.best q.1).1 := by
  by_cases h : q.1 = p.1
  · rw [h]
  · have a := best_step hF.cost (mem_onS.1 hp).1 (ed_of hp hq h)
    have b := best_step hF.cost (mem_onS.1 hq).1 (ed_of hq hp (Ne.symm h))
    unfold bl at a b
    simp only at a b
    omega
/-- A root port's way. -/
def wayT (l : L) (b k : Nat) : Vt := match ownS l (prt l b k).seg with | some p => ((l.best p.1).1, (l.best p.1).2 + (prt l b k).cost, (pl l p.1).id, (p.2 : Int)) | none => (0, 0, 0, 0)
def okR (l : L) (b k : Nat) : Bool := (prt l b k).up && match ownS l (prt l b k).seg with | some p => (p.1 != b) && ((wayT l b k).1 == (l.best b).1 && (wayT l b k).2.1 == (l.best b).2) | none => false
def rootT (l : L) (b : Nat) : Option Nat := if (l.best b).1 = (pl l b).id then none else firstMin (wayT l b) ((List.range (pl l b).ports.length).filter (okR l b)) none
theorem root_is {l : L} {b k : Nat} (h : rootT l b = some k) : k < (pl l b).ports.length ∧ (prt l b k).up = true ∧ (l.best b).1 ≠ (pl l b).id ∧ ∃ p, ownS l (prt l b k).seg = some p ∧ p.1 ≠ b ∧ l.best b = ((l.best p.1).1, (l.best p.1).2 + (prt l b k).cost) := by
  unfold rootT at h
  split at h
  · cases h
  · rename_i hne
    have := (firstMin_some h).1
    rw [List.mem_filter, List.mem_range] at this
    obtain ⟨hk, ho⟩ := this
    unfold okR at ho
    rw [Bool.and_eq_true] at ho
    obtain ⟨hu, ho⟩ := ho
    refine ⟨hk, hu, hne, ?_⟩
    cases hp : ownS l (prt l b k).seg with
    | none => rw [hp] at ho; cases ho
    | some p =>
      rw [hp] at ho
      simp only [Bool.and_eq_true, bne_iff_ne, beq_iff_eq] at ho
      refine ⟨p, rfl, ho.1, ?_⟩
      have e : wayT l b k = ((l.best p.1).1, (l.best p.1).2 + (prt l b k).cost, (pl l p.1).id, (p.2 : Int)) := by unfold wayT; rw [hp]
      rw [e] at ho
      exact Prod.ext ho.2.1.symm ho.2.2.symm
theorem root_has {l : L} (hF : Fine l) {b : Nat} (hb : b < l.plans.length) (h : (l.best b).1 ≠ (pl l b).id) : ∃ k, rootT l b = some k := by
  rcases best_att hF.cost hb with e | ⟨k, c, ⟨hk, hne, x, hx, h1, h2, rfl⟩, e⟩
  · exact absurd (by rw [e]) h
  obtain ⟨i, hi, rfl⟩ := mem_prt hx
  obtain ⟨j, hj, h3, h4⟩ := at_joins h2
  have hpos := hF.cost b k _ ⟨hk, hne, _, hx, h1, h2, rfl⟩
  have m1 : (b, i) ∈ onS l (prt l b i).seg := mem_onS.2 ⟨hb, hi, h1, rfl⟩
  have m2 : (k, j) ∈ onS l (prt l b i).seg := mem_onS.2 ⟨hk, hj, h3, h4⟩
  obtain ⟨p, hp⟩ := own_some m1
  have m3 := own_mem hp
  have ho := own_best hp m2
  simp only at ho
  have hpb : p.1 ≠ b := fun q => by
    rw [q, e] at ho
    unfold bl at ho
    simp only at ho
    omega
  have hs := best_step hF.cost hb (ed_of m1 m3 hpb)
  simp only at hs
  have heq : l.best b = ((l.best p.1).1, (l.best p.1).2 + (prt l b i).cost) := bl_anti hs (by rw [e]; exact bl_add ho)
  have hok : okR l b i = true := by
    have e2 : wayT l b i = ((l.best p.1).1, (l.best p.1).2 + (prt l b i).cost, (pl l p.1).id, (p.2 : Int)) := by unfold wayT; rw [hp]
    unfold okR
    rw [hp]
    simp only [Bool.and_eq_true, bne_iff_ne, beq_iff_eq]
    refine ⟨h1, hpb, ?_⟩
    rw [e2]
    have q1 := congrArg Prod.fst heq
    have q2 := congrArg Prod.snd heq
    exact ⟨q1.symm, q2.symm⟩
  unfold rootT
  rw [if_neg h]
  cases hq : firstMin (wayT l b) ((List.range (pl l b).ports.length).filter (okR l b)) none with
  | some k => exact ⟨k, rfl⟩
  | none =>
    have := firstMin_none.1 hq
    have hm : i ∈ (List.range (pl l b).ports.length).filter (okR l b) := List.mem_filter.2 ⟨List.mem_range.2 hi, hok⟩
    rw [this] at hm
    cases hm
/-- Open: the segment's own, or a root port. -/
def opn (l : L) (b k : Nat) : Bool := (prt l b k).up && (decide (ownS l (prt l b k).seg = some (b, k)) || decide (rootT l b = some k))
def roleT (l : L) (b k : Nat) : Int := if (prt l b k).up = true then (if ownS l (prt l b k).seg = some (b, k) then 1 else if rootT l b = some k then 0 else 2) else 3
theorem open_role (l : L) (b k : Nat) : opn l b k = decide (roleT l b k = 0 ∨ roleT l b k = 1) := by
  unfold opn roleT
  cases (prt l b k).up
  · simp
  · by_cases h1 : ownS l (prt l b k).seg = some (b, k)
    · simp [h1]
    · by_cases h2 : rootT l b = some k <;> simp [h1, h2]
def treeP (l : L) (b : Nat) : P := ⟨(pl l b).id, (List.range (pl l b).ports.length).map fun k => { prt l b k with up := (prt l b k).up && opn l b k }⟩
def L.tree (l : L) : L := ⟨l.segs, (List.range l.plans.length).map (treeP l), l.hosts⟩
theorem mem_upsT {l : L} {b : Nat} {s : Int} : s ∈ ups (treeP l b) ↔ ∃ k, k < (pl l b).ports.length ∧ (prt l b k).up = true ∧ opn l b k = true ∧ (prt l b k).seg = s := by
  rw [mem_ups]
  unfold treeP
  constructor
  · rintro ⟨x, hx, h1, h2⟩
    obtain ⟨k, hk, rfl⟩ := List.mem_map.1 hx
    simp only [Bool.and_eq_true] at h1
    exact ⟨k, List.mem_range.1 hk, h1.1, h1.2, h2⟩
  · rintro ⟨k, hk, h1, h2, h3⟩
    exact ⟨_, List.mem_map.2 ⟨k, List.mem_range.2 hk, rfl⟩, by simp [h1, h2], h3⟩
theorem upsT_is (l : L) (b : Nat) : ups (treeP l b) = ((List.range (pl l b).ports.length).filter (opn l b)).map fun k => (prt l b k).seg := by
  unfold ups treeP
  simp only
  rw [List.filter_map, List.map_map]
  congr 1
  refine List.filter_congr fun k _ => ?_
  show ((prt l b k).up && opn l b k) = opn l b k
  unfold opn
  cases (prt l b k).up <;> simp
/-- What is open on a segment by another bridge than its owner is that one's root port. -/
theorem open_is {l : L} {b k : Nat} (h : opn l b k = true) : (prt l b k).up = true ∧ (ownS l (prt l b k).seg = some (b, k) ∨ rootT l b = some k) := by
  unfold opn at h
  rw [Bool.and_eq_true, Bool.or_eq_true, decide_eq_true_eq, decide_eq_true_eq] at h
  exact h
theorem upsT_nodup (l : L) (b : Nat) : (ups (treeP l b)).Nodup := by
  rw [upsT_is]
  have hnd : ((List.range (pl l b).ports.length).filter (opn l b)).Nodup := List.nodup_range.filter _
  unfold List.Nodup at hnd ⊢
  rw [List.pairwise_map]
  refine hnd.imp_of_mem fun {i j} hi hj hij => ?_
  rw [List.mem_filter] at hi hj
  intro he
  obtain ⟨_, h1⟩ := open_is hi.2
  obtain ⟨_, h2⟩ := open_is hj.2
  rcases h1 with h1 | h1
  · rcases h2 with h2 | h2
    · rw [he, h2] at h1
      have := Option.some.inj h1
      exact hij (congrArg Prod.snd this).symm
    · obtain ⟨_, _, _, p, hp, hne, _⟩ := root_is h2
      rw [he, hp] at h1
      have := Option.some.inj h1
      exact hne (congrArg Prod.fst this)
  · rcases h2 with h2 | h2
    · obtain ⟨_, _, _, p, hp, hne, _⟩ := root_is h1
      rw [← he, hp] at h2
      have := Option.some.inj h2
      exact hne (congrArg Prod.fst this)
    · rw [h1] at h2
      exact hij (Option.some.inj h2)
theorem tree_pairs (l : L) : l.tree.pairs = joinAll ((List.range l.plans.length).map fun b => ups (treeP l b)) := by
  unfold L.pairs L.tree joinAll
  rw [List.flatMap_map, List.flatMap_map]
theorem tree_fit {l : L} (hf : l.fit) : l.tree.fit := ⟨hf.1, fun p hp s hs => by
  obtain ⟨b, hb, rfl⟩ := List.mem_map.1 hp
  obtain ⟨k, hk, h1, _, h3⟩ := mem_upsT.1 hs
  have hb := List.mem_range.1 hb
  refine hf.2 (pl l b) (by unfold pl; rw [List.getD_eq_getElem?_getD, List.getElem?_eq_getElem hb]; exact List.getElem_mem hb) s (mem_ups.2 ⟨_, prt_mem hk, h1, h3⟩)⟩
/-- No loop. -/
theorem tree_loops {l : L} (hf : l.fit) (hF : Fine l) : l.tree.loops = 0 := by
  have hn : (l.tree.n : Int) = l.segs := by have := hf.1; unfold L.n L.tree; simp only; omega
  have hfr := forest_by l.tree.n (List.range l.plans.length) (fun b => ups (treeP l b)) (fun b => (l.best b).2) (fun b _ => upsT_nodup l b) (fun b hb s hs => by
    have := (tree_fit hf).2 (treeP l b) (List.mem_map.2 ⟨b, hb, rfl⟩) s hs
    rw [hn]; exact this) List.nodup_range (fun b hb => by
    refine ⟨match rootT l b with | some k => (prt l b k).seg | none => -1, fun s hs hne j hj hjb hle hsj => ?_⟩
    obtain ⟨k, hk, h1, h2, h3⟩ := mem_upsT.1 hs
    obtain ⟨k', hk', h1', h2', h3'⟩ := mem_upsT.1 hsj
    obtain ⟨_, h4⟩ := open_is h2
    have hown : ownS l s = some (b, k) := by
      rcases h4 with h4 | h4
      · rw [← h3]; exact h4
      · rw [h4] at hne
        exact absurd h3.symm hne
    obtain ⟨_, h5⟩ := open_is h2'
    rcases h5 with h5 | h5
    · rw [h3', hown] at h5
      exact hjb (congrArg Prod.fst (Option.some.inj h5)).symm
    · obtain ⟨_, _, _, p, hp, _, he⟩ := root_is h5
      rw [h3', hown] at hp
      obtain rfl := Option.some.inj hp
      have hpos := hF.cost j b (prt l j k').cost ⟨List.mem_range.1 hb, Ne.symm hjb, _, prt_mem hk', h1', by rw [h3', ← h3]; exact joins_at hk h1, rfl⟩
      have e2 : (l.best j).2 = (l.best b).2 + (prt l j k').cost := by rw [he]
      omega)
  rw [← tree_pairs] at hfr
  have := loops_is (tree_fit hf)
  unfold L.parts at this
  omega
/-- All bridges of a part are joined with the one that is its root, by what is open alone. -/
theorem tree_joined {l : L} (hF : Fine l) : ∀ (n b : Nat), b < l.plans.length → (l.best b).2.toNat ≤ n → (∃ k, k < (pl l b).ports.length ∧ (prt l b k).up = true) →
    ∃ ρ z, ρ < l.plans.length ∧ (pl l ρ).id = (l.best b).1 ∧ z ∈ ups (treeP l ρ) ∧ (ups (treeP l b) ≠ []) ∧ ∀ y ∈ ups (treeP l b), lab l.tree.pairs y = lab l.tree.pairs z := by
  have hT : ∀ b, b < l.plans.length → ∀ x ∈ ups (treeP l b), ∀ y ∈ ups (treeP l b), lab l.tree.pairs x = lab l.tree.pairs y := fun b hb => lab_ups l.tree (treeP l b) (List.mem_map.2 ⟨b, List.mem_range.2 hb, rfl⟩)
  have hroot : ∀ b, b < l.plans.length → (l.best b).1 = (pl l b).id → (∃ k, k < (pl l b).ports.length ∧ (prt l b k).up = true) → ∃ z, z ∈ ups (treeP l b) := fun b hb he ⟨k, hk, hu⟩ => by
    have m1 : (b, k) ∈ onS l (prt l b k).seg := mem_onS.2 ⟨hb, hk, hu, rfl⟩
    obtain ⟨p, hp⟩ := own_some m1
    have m2 := own_mem hp
    have ho := own_best hp m1
    have hr := root_same hF m1 m2
    simp only at ho hr
    have hz := (best_zero hF.cost hb).2 he
    have hpn := best_nonneg hF.cost l.plans.length p.1 (mem_onS.1 m2).1
    have hp0 : (l.best p.1).2 = 0 := by
      unfold bl at ho
      unfold L.best at *
      omega
    have hpid := (best_zero hF.cost (mem_onS.1 m2).1).1 hp0
    have hpb : p.1 = b := hF.ids _ _ (mem_onS.1 m2).1 hb (by rw [← hpid, ← he, hr])
    obtain ⟨a1, a2, a3, a4⟩ := mem_onS.1 m2
    rw [hpb] at a2 a3 a4
    have hpe : p = (b, p.2) := by rw [← hpb]
    refine ⟨(prt l b k).seg, mem_upsT.2 ⟨p.2, a2, a3, ?_, a4⟩⟩
    unfold opn
    rw [a3, a4, hp, ← hpe]
    simp
  intro n
  induction n with
  | zero =>
    intro b hb hn hk
    have h0 := best_nonneg hF.cost l.plans.length b hb
    have hz : (l.best b).2 = 0 := by unfold L.best at *; omega
    have he := (best_zero hF.cost hb).1 hz
    obtain ⟨z, hz'⟩ := hroot b hb he hk
    exact ⟨b, z, hb, he.symm, hz', (fun e => by rw [e] at hz'; cases hz'), fun y hy => hT b hb y hy z hz'⟩
  | succ n ih =>
    intro b hb hn hk
    by_cases he : (l.best b).1 = (pl l b).id
    · obtain ⟨z, hz'⟩ := hroot b hb he hk
      exact ⟨b, z, hb, he.symm, hz', (fun e => by rw [e] at hz'; cases hz'), fun y hy => hT b hb y hy z hz'⟩
    · obtain ⟨i, hi⟩ := root_has hF hb he
      obtain ⟨hil, hiu, _, p, hp, hne, hbe⟩ := root_is hi
      have m2 := own_mem hp
      obtain ⟨a1, a2, a3, a4⟩ := mem_onS.1 m2
      have m1 : (b, i) ∈ onS l (prt l b i).seg := mem_onS.2 ⟨hb, hil, hiu, rfl⟩
      have hpos := hF.cost _ _ _ (ed_of m1 m2 hne)
      simp only at hpos
      have e2 : (l.best b).2 = (l.best p.1).2 + (prt l b i).cost := by rw [hbe]
      have hp0 := best_nonneg hF.cost l.plans.length p.1 a1
      obtain ⟨ρ, z, h1, h2, h3, h4, h5⟩ := ih p.1 a1 (by unfold L.best at *; omega) ⟨p.2, a2, a3⟩
      have s1 : (prt l b i).seg ∈ ups (treeP l b) := mem_upsT.2 ⟨i, hil, hiu, by unfold opn; rw [hiu, hi]; simp, rfl⟩
      have s2 : (prt l b i).seg ∈ ups (treeP l p.1) := mem_upsT.2 ⟨p.2, a2, a3, by unfold opn; rw [a3, a4, hp]; simp, a4⟩
      have e1 : (l.best b).1 = (l.best p.1).1 := by rw [hbe]
      refine ⟨ρ, z, h1, by rw [e1]; exact h2, h3, (fun e => by rw [e] at s1; cases s1), fun y hy => ?_⟩
      rw [hT b hb y hy _ s1, h5 _ s2]
theorem tree_lab {l : L} (hF : Fine l) (s : Int) : lab l.pairs s = lab l.tree.pairs s := by
  refine lab_ext ((pairs_join (lab l.tree.pairs)).2 fun p hp x hx y hy => ?_) ((pairs_join (lab l.pairs)).2 fun p hp x hx y hy => ?_) s
  · obtain ⟨b, hb, rfl⟩ : ∃ b, b < l.plans.length ∧ pl l b = p := by
      obtain ⟨b, hb, rfl⟩ := List.mem_iff_getElem.1 hp
      exact ⟨b, hb, by unfold pl; rw [List.getD_eq_getElem?_getD, List.getElem?_eq_getElem hb]; rfl⟩
    have key : ∀ x ∈ ups (pl l b), ∃ ρ z, ρ < l.plans.length ∧ (pl l ρ).id = (l.best b).1 ∧ z ∈ ups (treeP l ρ) ∧ lab l.tree.pairs x = lab l.tree.pairs z := fun x hx => by
      obtain ⟨q, hq, h1, rfl⟩ := mem_ups.1 hx
      obtain ⟨k, hk, rfl⟩ := mem_prt hq
      have m1 : (b, k) ∈ onS l (prt l b k).seg := mem_onS.2 ⟨hb, hk, h1, rfl⟩
      obtain ⟨p, hp⟩ := own_some m1
      have m2 := own_mem hp
      obtain ⟨a1, a2, a3, a4⟩ := mem_onS.1 m2
      obtain ⟨ρ, z, c1, c2, c3, c4, c5⟩ := tree_joined hF _ p.1 a1 (Nat.le_refl _) ⟨p.2, a2, a3⟩
      have s2 : (prt l b k).seg ∈ ups (treeP l p.1) := mem_upsT.2 ⟨p.2, a2, a3, by unfold opn; rw [a3, a4, hp]; simp, a4⟩
      exact ⟨ρ, z, c1, by rw [c2]; exact (root_same hF m1 m2).symm, c3, c5 _ s2⟩
    obtain ⟨ρ, z, c1, c2, c3, c4⟩ := key x hx
    obtain ⟨ρ', z', d1, d2, d3, d4⟩ := key y hy
    obtain rfl := hF.ids _ _ c1 d1 (by rw [c2, d2])
    rw [c4, d4]
    exact lab_ups l.tree (treeP l ρ) (List.mem_map.2 ⟨ρ, List.mem_range.2 c1, rfl⟩) z c3 z' d3
  · obtain ⟨b, hb, rfl⟩ := List.mem_map.1 hp
    have hb := List.mem_range.1 hb
    have sub : ∀ s ∈ ups (treeP l b), s ∈ ups (pl l b) := fun s hs => by
      obtain ⟨k, hk, h1, _, h3⟩ := mem_upsT.1 hs
      exact mem_ups.2 ⟨_, prt_mem hk, h1, h3⟩
    exact lab_ups l (pl l b) (by unfold pl; rw [List.getD_eq_getElem?_getD, List.getElem?_eq_getElem hb]; exact List.getElem_mem hb) x (sub x hx) y (sub y hy)
end Go.Proofs.Ytgcmklliafcffaa.LanP

/- Layer 16 (tree), plain facts: a heap of ways (swp, up, down), and that taking the best way each time finds the bests (Dij). -/
namespace Go.Proofs.Ytgcmklliafcffaa.LanP
set_option linter.unusedVariables false
set_option maxRecDepth 100000
/-- A way: alone, or one that goes on. -/
inductive Wy where
  | al (b : Nat) (r : Int)
  | on (b : Nat) (r c : Int)
instance : Inhabited Wy := ⟨.al 0 0⟩
def Wy.fr : Wy → Nat
  | .al b _ => b
  | .on b _ _ => b
def Wy.key : Wy → Bst
  | .al _ r => (r, 0)
  | .on _ r c => (r, c)
def at_ (h : List Wy) (i : Nat) : Wy := h.getD i default
def ky (h : List Wy) (i : Nat) : Bst := (at_ h i).key
def swp (h : List Wy) (i j : Nat) : List Wy := (h.set i (at_ h j)).set j (at_ h i)
theorem swp_len (h : List Wy) (i j : Nat) : (swp h i j).length = h.length := by unfold swp; simp
theorem at_get {h : List Wy} {k : Nat} (hk : k < h.length) : h[k]? = some (at_ h k) := by unfold at_; rw [List.getD_eq_getElem?_getD, List.getElem?_eq_getElem hk]; rfl
theorem at_mem {h : List Wy} {k : Nat} (hk : k < h.length) : at_ h k ∈ h := List.mem_of_getElem? (at_get hk)
theorem mem_at {h : List Wy} {y : Wy} (hy : y ∈ h) : ∃ k, k < h.length ∧ at_ h k = y := by
  obtain ⟨k, hk, rfl⟩ := List.mem_iff_getElem.1 hy
  exact ⟨k, hk, by unfold at_; rw [List.getD_eq_getElem?_getD, List.getElem?_eq_getElem hk]; rfl⟩
theorem swp_at (h : List Wy) {i j : Nat} (hi : i < h.length) (hj : j < h.length) (k : Nat) : at_ (swp h i j) k = if k = j then at_ h i else if k = i then at_ h j else at_ h k := by
  unfold swp
  conv => lhs; unfold at_
  rw [List.getD_eq_getElem?_getD, List.getElem?_set]
  by_cases h1 : j = k
  · subst h1
    rw [if_pos rfl, if_pos rfl, if_pos (by rw [List.length_set]; exact hj)]; rfl
  · rw [if_neg h1, if_neg (fun e => h1 e.symm), List.getElem?_set]
    by_cases h2 : i = k
    · subst h2
      rw [if_pos rfl, if_pos rfl, if_pos hi]; rfl
    · rw [if_neg h2, if_neg (fun e => h2 e.symm)]
      conv => rhs; unfold at_
      rw [List.getD_eq_getElem?_getD]
theorem swp_ky (h : List Wy) {i j : Nat} (hi : i < h.length) (hj : j < h.length) (k : Nat) : ky (swp h i j) k = if k = j then ky h i else if k = i then ky h j else ky h k := by
  unfold ky
  rw [swp_at h hi hj]
  split
  · rfl
  · split <;> rfl
theorem swp_mem (h : List Wy) {i j : Nat} (hi : i < h.length) (hj : j < h.length) (y : Wy) : y ∈ swp h i j ↔ y ∈ h := by
  constructor
  · intro hy
    obtain ⟨k, hk, rfl⟩ := mem_at hy
    rw [swp_len] at hk
    rw [swp_at h hi hj]
    split
    · exact at_mem hi
    · split
      · exact at_mem hj
      · exact at_mem hk
  · intro hy
    obtain ⟨k, hk, rfl⟩ := mem_at hy
    by_cases h1 : k = i
    · subst h1
      have := at_mem (h := swp h k j) (k := j) (by rw [swp_len]; exact hj)
      rwa [swp_at h hi hj, if_pos rfl] at this
    · by_cases h2 : k = j
      · subst h2
        have := at_mem (h := swp h i k) (k := i) (by rw [swp_len]; exact hi)
        rw [swp_at h hi hj] at this
        rwa [if_neg (fun e => h1 e.symm), if_pos rfl] at this
      · have := at_mem (h := swp h i j) (k := k) (by rw [swp_len]; exact hk)
        rwa [swp_at h hi hj, if_neg h2, if_neg h1] at this
/-- The same ways in another order. -/
structure Mix (h h' : List Wy) : Prop where
  len : h'.length = h.length
  mem : ∀ y, y ∈ h' ↔ y ∈ h
theorem Mix.refl (h : List Wy) : Mix h h := ⟨rfl, fun _ => Iff.rfl⟩
theorem Mix.swp {h h' : List Wy} (m : Mix h h') {i j : Nat} (hi : i < h'.length) (hj : j < h'.length) : Mix h (swp h' i j) := ⟨by rw [swp_len, m.len], fun y => (swp_mem h' hi hj y).trans (m.mem y)⟩
def HeapN (h : List Wy) (n : Nat) : Prop := ∀ i, 0 < i → i < n → bl (ky h ((i - 1) / 2)) (ky h i)
structure UpI (h : List Wy) (j : Nat) : Prop where
  a : ∀ i, 0 < i → i < h.length → i ≠ j → bl (ky h ((i - 1) / 2)) (ky h i)
  b : ∀ i, 0 < i → i < h.length → (i - 1) / 2 = j → 0 < j → bl (ky h ((j - 1) / 2)) (ky h i)
theorem up_step {h : List Wy} {j i : Nat} (u : UpI h j) (hj : j < h.length) (h0 : 0 < j) (hi : (j - 1) / 2 = i) (hb : btr (ky h j) (ky h i) = true) : UpI (swp h i j) i := by
  have hil : i < h.length := by omega
  have hlt := bl_of hb
  have hij : i ≠ j := by omega
  refine ⟨fun k k0 kl kn => ?_, fun k k0 kl kp i0 => ?_⟩
  · rw [swp_len] at kl
    rw [swp_ky h hil hj, swp_ky h hil hj]
    by_cases e1 : k = j
    · subst e1
      rw [if_pos rfl, hi, if_neg hij, if_pos rfl]; exact hlt
    · rw [if_neg e1, if_neg kn]
      by_cases e2 : (k - 1) / 2 = j
      · rw [if_pos e2]
        have := u.b k k0 kl e2 h0
        rwa [hi] at this
      · rw [if_neg e2]
        have ha := u.a k k0 kl e1
        by_cases e3 : (k - 1) / 2 = i
        · rw [if_pos e3]
          rw [e3] at ha
          exact bl_trans hlt ha
        · rw [if_neg e3]; exact ha
  · rw [swp_len] at kl
    have ha := u.a i i0 hil hij
    rw [swp_ky h hil hj, swp_ky h hil hj, if_neg (by omega), if_neg (by omega)]
    by_cases e1 : k = j
    · rw [if_pos e1]; exact ha
    · rw [if_neg e1, if_neg (by omega)]
      have hb2 := u.a k k0 kl e1
      rw [kp] at hb2
      exact bl_trans ha hb2
theorem up_zero {h : List Wy} (u : UpI h 0) : HeapN h h.length := fun i i0 il => u.a i i0 il (by omega)
theorem up_end {h : List Wy} {j i : Nat} (u : UpI h j) (hi : (j - 1) / 2 = i) (hb : btr (ky h j) (ky h i) = false) : HeapN h h.length := fun k k0 kl => by
  by_cases e : k = j
  · subst e; rw [hi]; exact bl_of_not hb
  · exact u.a k k0 kl e
theorem at_app {h : List Wy} {x : Wy} {k : Nat} (hk : k < h.length) : at_ (h ++ [x]) k = at_ h k := by unfold at_; rw [List.getD_eq_getElem?_getD, List.getD_eq_getElem?_getD, List.getElem?_append_left hk]
theorem up_new {h : List Wy} (H : HeapN h h.length) (x : Wy) : UpI (h ++ [x]) h.length := by
  refine ⟨fun i i0 il ne => ?_, fun i i0 il e _ => ?_⟩
  · rw [List.length_append] at il
    simp only [List.length_cons, List.length_nil] at il
    have := H i i0 (by omega)
    unfold ky at *
    rwa [at_app (by omega), at_app (by omega)]
  · rw [List.length_append] at il
    simp only [List.length_cons, List.length_nil] at il
    omega
structure DnI (h : List Wy) (i n : Nat) : Prop where
  a : ∀ k, 0 < k → k < n → (k - 1) / 2 ≠ i → bl (ky h ((k - 1) / 2)) (ky h k)
  b : ∀ k, 0 < k → k < n → (k - 1) / 2 = i → 0 < i → bl (ky h ((i - 1) / 2)) (ky h k)
theorem dn_leaf {h : List Wy} {i n : Nat} (d : DnI h i n) (hn : n ≤ 2 * i + 1) : HeapN h n := fun k k0 kl => d.a k k0 kl (by omega)
/-- The better one of two children. -/
structure Kid (h : List Wy) (i n j : Nat) : Prop where
  lt : j < n
  up : (j - 1) / 2 = i
  pos : 0 < j
  le : ∀ k, 0 < k → k < n → (k - 1) / 2 = i → bl (ky h j) (ky h k)
theorem kid_one {h : List Wy} {i n : Nat} (h1 : 2 * i + 1 < n) (h2 : ¬ 2 * i + 2 < n) : Kid h i n (2 * i + 1) := ⟨h1, by omega, by omega, fun k k0 kl e => by
  obtain rfl : k = 2 * i + 1 := by omega
  exact bl_refl _⟩
theorem kid_left {h : List Wy} {i n : Nat} (h1 : 2 * i + 1 < n) (hb : btr (ky h (2 * i + 2)) (ky h (2 * i + 1)) = false) : Kid h i n (2 * i + 1) := ⟨h1, by omega, by omega, fun k k0 kl e => by
  rcases (show k = 2 * i + 1 ∨ k = 2 * i + 2 by omega) with rfl | rfl
  · exact bl_refl _
  · exact bl_of_not hb⟩
theorem kid_right {h : List Wy} {i n : Nat} (h1 : 2 * i + 2 < n) (hb : btr (ky h (2 * i + 2)) (ky h (2 * i + 1)) = true) : Kid h i n (2 * i + 2) := ⟨h1, by omega, by omega, fun k k0 kl e => by
  rcases (show k = 2 * i + 1 ∨ k = 2 * i + 2 by omega) with rfl | rfl
  · exact bl_of hb
  · exact bl_refl _⟩
theorem dn_end {h : List Wy} {i n j : Nat} (d : DnI h i n) (K : Kid h i n j) (hb : btr (ky h j) (ky h i) = false) : HeapN h n := fun k k0 kl => by
  by_cases e : (k - 1) / 2 = i
  · rw [e]; exact bl_trans (bl_of_not hb) (K.le k k0 kl e)
  · exact d.a k k0 kl e
theorem dn_step {h : List Wy} {i n j : Nat} (hn : n ≤ h.length) (d : DnI h i n) (K : Kid h i n j) (hb : btr (ky h j) (ky h i) = true) : DnI (swp h i j) j n := by
  have hlt := bl_of hb
  have hj : j < h.length := Nat.lt_of_lt_of_le K.lt hn
  have hup := K.up
  have hpos := K.pos
  have hi : i < h.length := by omega
  have hij : i ≠ j := by omega
  refine ⟨fun k k0 kl ke => ?_, fun k k0 kl ke j0 => ?_⟩
  · rw [swp_ky h hi hj, swp_ky h hi hj, if_neg ke]
    by_cases e1 : (k - 1) / 2 = i
    · rw [if_pos e1]
      by_cases e2 : k = j
      · rw [if_pos e2]; exact hlt
      · rw [if_neg e2, if_neg (by omega)]; exact K.le k k0 kl e1
    · rw [if_neg e1]
      by_cases e2 : k = j
      · exact absurd (by rw [e2]; exact hup) e1
      · rw [if_neg e2]
        by_cases e3 : k = i
        · subst e3
          rw [if_pos rfl]
          exact d.b j hpos K.lt hup k0
        · rw [if_neg e3]; exact d.a k k0 kl e1
  · rw [swp_ky h hi hj, swp_ky h hi hj, hup, if_neg hij, if_pos rfl, if_neg (by omega), if_neg (by omega)]
    have := d.a k k0 kl (by omega)
    rwa [ke] at this
theorem dn_pop {h : List Wy} {m : Nat} (hm : h.length = m + 1) (H : HeapN h (m + 1)) : DnI (swp h 0 m) 0 m := by
  refine ⟨fun k k0 kl ke => ?_, fun k k0 kl ke j0 => absurd j0 (by omega)⟩
  rw [swp_ky h (by omega) (by omega), swp_ky h (by omega) (by omega), if_neg (by omega), if_neg ke, if_neg (by omega), if_neg (by omega)]
  exact H k k0 (by omega)
theorem heap_min {h : List Wy} {n : Nat} (H : HeapN h n) : ∀ (k : Nat), k < n → bl (ky h 0) (ky h k)
  | 0, _ => bl_refl _
  | k + 1, hk => bl_trans (heap_min H ((k + 1 - 1) / 2) (by omega)) (H (k + 1) (by omega) hk)
termination_by k => k
theorem heapN_take {h : List Wy} {n : Nat} (H : HeapN h n) (hn : n ≤ h.length) : HeapN (h.take n) (h.take n).length := fun i i0 il => by
  rw [List.length_take, Nat.min_eq_left hn] at il
  have e : ∀ k, k < n → ky (h.take n) k = ky h k := fun k hk => by
    unfold ky at_
    rw [List.getD_eq_getElem?_getD, List.getD_eq_getElem?_getD, List.getElem?_take_of_lt hk]
  rw [e _ il, e _ (by omega)]
  exact H i i0 il
/-- What a bridge's way makes: ways of all that are on its segments. -/
def aheadP (l : L) (k : Bst) (x : Lk) : List Wy := if x.up = true then (onS l x.seg).map fun q => Wy.on q.1 k.1 (k.2 + (prt l q.1 q.2).cost) else []
def aheadL (l : L) (b : Nat) (k : Bst) : List Wy := (pl l b).ports.flatMap (aheadP l k)
theorem mem_ahead {l : L} {b : Nat} {k : Bst} {w : Wy} : w ∈ aheadL l b k ↔ ∃ x ∈ (pl l b).ports, x.up = true ∧ ∃ q ∈ onS l x.seg, w = .on q.1 k.1 (k.2 + (prt l q.1 q.2).cost) := by
  unfold aheadL aheadP
  rw [List.mem_flatMap]
  constructor
  · rintro ⟨x, hx, h⟩
    split at h
    · obtain ⟨q, hq, rfl⟩ := List.mem_map.1 h
      exact ⟨x, hx, by assumption, q, hq, rfl⟩
    · cases h
  · rintro ⟨x, hx, hu, q, hq, rfl⟩
    exact ⟨x, hx, by rw [if_pos hu]; exact List.mem_map.2 ⟨q, hq, rfl⟩⟩
/-- What is kept, while the best way is taken each time. -/
structure Dij (l : L) (kn : List Bool) (be : List Bst) (h : List Wy) : Prop where
  ln : kn.length = l.plans.length
  lb : be.length = l.plans.length
  known : ∀ b, b < l.plans.length → kn.getD b false = true → be.getD b (0, 0) = l.best b
  up : ∀ w ∈ h, w.fr < l.plans.length ∧ bl (l.best w.fr) w.key
  own : ∀ b, b < l.plans.length → kn.getD b false = false → Wy.al b (pl l b).id ∈ h
  edge : ∀ b k c, b < l.plans.length → k < l.plans.length → kn.getD k false = true → kn.getD b false = false → Ed l b k c → ∃ w ∈ h, w.fr = b ∧ w.key = ((l.best k).1, (l.best k).2 + c)
theorem dij_skip {l : L} {kn : List Bool} {be : List Bst} {h t : List Wy} {x : Wy} (D : Dij l kn be h) (h1 : ∀ y ∈ t, y ∈ h) (h2 : ∀ y ∈ h, y = x ∨ y ∈ t) (hx : kn.getD x.fr false = true) : Dij l kn be t := by
  refine ⟨D.ln, D.lb, D.known, fun w hw => D.up w (h1 w hw), fun b hb hk => ?_, fun b k c hb hk h3 h4 h5 => ?_⟩
  · rcases h2 _ (D.own b hb hk) with e | e
    · rw [← e] at hx
      have hx : kn.getD b false = true := hx
      rw [hk] at hx; cases hx
    · exact e
  · obtain ⟨w, hw, e1, e2⟩ := D.edge b k c hb hk h3 h4 h5
    rcases h2 w hw with e | e
    · rw [← e, e1, h4] at hx; cases hx
    · exact ⟨w, e, e1, e2⟩
theorem dij_best {l : L} (hc : ∀ b k c, Ed l b k c → 0 < c) {kn : List Bool} {be : List Bst} {h : List Wy} {x : Wy} (D : Dij l kn be h) (hm : ∀ y ∈ h, bl x.key y.key) (hx : x ∈ h) (hk : kn.getD x.fr false = false) : x.key = l.best x.fr := by
  have key : ∀ (n b : Nat), b < l.plans.length → kn.getD b false = false → (l.best b).2.toNat ≤ n → bl x.key (l.best b) := by
    intro n
    induction n with
    | zero =>
      intro b hb hkb hn
      rcases best_att hc hb with e | ⟨k, c, he, e⟩
      · rw [e]; exact hm _ (D.own b hb hkb)
      · have h1 := hc b k c he
        have h2 := best_nonneg hc l.plans.length k he.1
        have h3 : (l.best b).2 = (l.best k).2 + c := by rw [e]
        unfold L.best at *
        omega
    | succ n ih =>
      intro b hb hkb hn
      rcases best_att hc hb with e | ⟨k, c, he, e⟩
      · rw [e]; exact hm _ (D.own b hb hkb)
      · have h1 := hc b k c he
        have h2 := best_nonneg hc l.plans.length k he.1
        have h3 : (l.best b).2 = (l.best k).2 + c := by rw [e]
        by_cases hkk : kn.getD k false = true
        · obtain ⟨w, hw, e1, e2⟩ := D.edge b k c hb he.1 hkk hkb he
          have := hm w hw
          rw [e2, ← e] at this
          exact this
        · have := ih k he.1 (by simpa using hkk) (by unfold L.best at *; omega)
          refine bl_trans this ?_
          rw [e]
          exact .inr ⟨rfl, by simp only; omega⟩
  have hu := D.up x hx
  exact bl_anti (key _ x.fr hu.1 hk (Nat.le_refl _)) hu.2
theorem getD_set_bool (l : List Bool) (i k : Nat) (hi : i < l.length) : (l.set i true).getD k false = if i = k then true else l.getD k false := by
  rw [List.getD_eq_getElem?_getD, List.getElem?_set, List.getD_eq_getElem?_getD]
  by_cases h : i = k
  · rw [if_pos h, if_pos h, if_pos hi]; rfl
  · rw [if_neg h, if_neg h]
theorem getD_set_bst (l : List Bst) (i k : Nat) (v : Bst) (hi : i < l.length) : (l.set i v).getD k (0, 0) = if i = k then v else l.getD k (0, 0) := by
  rw [List.getD_eq_getElem?_getD, List.getElem?_set, List.getD_eq_getElem?_getD]
  by_cases h : i = k
  · rw [if_pos h, if_pos h, if_pos hi]; rfl
  · rw [if_neg h, if_neg h]
theorem dij_take {l : L} (hc : ∀ b k c, Ed l b k c → 0 < c) (hp : ∀ p ∈ l.plans, ∀ x ∈ p.ports, 0 < x.cost) {kn : List Bool} {be : List Bst} {h t r : List Wy} {x : Wy} (D : Dij l kn be h) (h1 : ∀ y ∈ t, y ∈ h) (h2 : ∀ y ∈ h, y = x ∨ y ∈ t) (hx : x.fr < l.plans.length)
    (hk : kn.getD x.fr false = false) (hb : x.key = l.best x.fr) (hr : ∀ y, y ∈ r ↔ y ∈ t ∨ y ∈ aheadL l x.fr x.key) : Dij l (kn.set x.fr true) (be.set x.fr x.key) r := by
  have g1 : ∀ b, (kn.set x.fr true).getD b false = if x.fr = b then true else kn.getD b false := fun b => getD_set_bool _ _ _ (by rw [D.ln]; exact hx)
  have g2 : ∀ b, (be.set x.fr x.key).getD b (0, 0) = if x.fr = b then x.key else be.getD b (0, 0) := fun b => getD_set_bst _ _ _ _ (by rw [D.lb]; exact hx)
  refine ⟨by rw [List.length_set]; exact D.ln, by rw [List.length_set]; exact D.lb, fun b hb' hk' => ?_, fun w hw => ?_, fun b hb' hk' => ?_, fun b k c hb' hk' h3 h4 h5 => ?_⟩
  · rw [g2]
    rw [g1] at hk'
    by_cases e : x.fr = b
    · rw [if_pos e, hb, e]
    · rw [if_neg e] at hk' ⊢; exact D.known b hb' hk'
  · rcases (hr w).1 hw with hw | hw
    · exact D.up w (h1 w hw)
    · obtain ⟨y, hy, hu, q, hq, rfl⟩ := mem_ahead.1 hw
      obtain ⟨q1, q2, q3, q4⟩ := mem_onS.1 hq
      refine ⟨q1, ?_⟩
      show bl (l.best q.1) (x.key.1, x.key.2 + (prt l q.1 q.2).cost)
      rw [hb]
      by_cases e : x.fr = q.1
      · have := hp (pl l q.1) (by unfold pl; rw [List.getD_eq_getElem?_getD, List.getElem?_eq_getElem q1]; exact List.getElem_mem q1) _ (prt_mem q2)
        rw [e]
        exact .inr ⟨rfl, by simp only; omega⟩
      · obtain ⟨i, hi, rfl⟩ := mem_prt hy
        have m : (x.fr, i) ∈ onS l (prt l x.fr i).seg := mem_onS.2 ⟨hx, hi, hu, rfl⟩
        exact best_step hc q1 (ed_of hq m e)
  · rw [g1] at hk'
    by_cases e : x.fr = b
    · rw [if_pos e] at hk'; cases hk'
    · rw [if_neg e] at hk'
      rcases h2 _ (D.own b hb' hk') with e2 | e2
      · exact absurd (by rw [← e2]; rfl) e
      · exact (hr _).2 (.inl e2)
  · rw [g1] at h3 h4
    by_cases e : x.fr = b
    · rw [if_pos e] at h4; cases h4
    · rw [if_neg e] at h4
      by_cases e2 : x.fr = k
      · obtain ⟨_, hne, y, hy, h6, h7, rfl⟩ := h5
        obtain ⟨i, hi, rfl⟩ := mem_prt hy
        obtain ⟨j, hj, h8, h9⟩ := at_joins h7
        refine ⟨Wy.on b x.key.1 (x.key.2 + (prt l b i).cost), (hr _).2 (.inr (mem_ahead.2 ?_)), rfl, ?_⟩
        · rw [e2]
          exact ⟨_, prt_mem hj, h8, (b, i), mem_onS.2 ⟨hb', hi, h6, h9.symm⟩, rfl⟩
        · show (x.key.1, x.key.2 + (prt l b i).cost) = _
          rw [hb, e2]
      · rw [if_neg e2] at h3
        obtain ⟨w, hw, e3, e4⟩ := D.edge b k c hb' hk' h3 h4 h5
        rcases h2 w hw with e5 | e5
        · exact absurd (by rw [← e5]; exact e3) e
        · exact ⟨w, (hr _).2 (.inl e5), e3, e4⟩
theorem dij_end {l : L} {kn : List Bool} {be : List Bst} (D : Dij l kn be []) : be = l.bs := by
  refine List.ext_getElem? fun b => ?_
  by_cases hb : b < l.plans.length
  · have hk : kn.getD b false = true := by
      cases hq : kn.getD b false with
      | true => rfl
      | false => cases D.own b hb hq
    have := D.known b hb hk
    unfold L.best bB at this
    unfold L.bs
    rw [List.getD_eq_getElem?_getD, List.getD_eq_getElem?_getD, List.getElem?_eq_getElem (by rw [D.lb]; exact hb), List.getElem?_eq_getElem (by rw [bests_len]; exact hb)] at this
    rw [List.getElem?_eq_getElem (by rw [D.lb]; exact hb), List.getElem?_eq_getElem (by rw [bests_len]; exact hb)]
    exact congrArg some this
  · unfold L.bs
    rw [List.getElem?_eq_none (by rw [D.lb]; omega), List.getElem?_eq_none (by rw [bests_len]; omega)]
/-- At the beginning. -/
def alones (l : L) (k : Nat) : List Wy := (List.range k).map fun b => Wy.al b (pl l b).id
theorem dij_zero {l : L} {h : List Wy} (hm : ∀ y, y ∈ h ↔ y ∈ alones l l.plans.length) : Dij l (List.replicate l.plans.length false) (List.replicate l.plans.length (0, 0)) h := by
  have g : ∀ b, (List.replicate l.plans.length false).getD b false = false := fun b => by
    rw [List.getD_eq_getElem?_getD, List.getElem?_replicate]; split <;> rfl
  refine ⟨by simp, by simp, fun b hb hk => ?_, fun w hw => ?_, fun b hb _ => ?_, fun b k c hb hk h3 => ?_⟩
  · rw [g] at hk; cases hk
  · obtain ⟨b, hb, rfl⟩ := List.mem_map.1 ((hm w).1 hw)
    exact ⟨List.mem_range.1 hb, best_own (List.mem_range.1 hb)⟩
  · exact (hm _).2 (List.mem_map.2 ⟨b, List.mem_range.2 hb, rfl⟩)
  · rw [g] at h3; cases h3
/-- How many are not known yet. -/
def unk (kn : List Bool) : Nat := kn.countP fun x => !x
theorem unk_set {kn : List Bool} {b : Nat} (hb : b < kn.length) (h : kn.getD b false = false) : unk (kn.set b true) + 1 = unk kn := by
  unfold unk
  induction kn generalizing b with
  | nil => simp at hb
  | cons a r ih =>
    cases b with
    | zero =>
      have h : a = false := h
      subst h
      simp
    | succ b =>
      have := ih (b := b) (by simpa using hb) h
      rw [List.set_cons_succ, List.countP_cons, List.countP_cons]
      omega
theorem pl_mem {l : L} {b : Nat} (h : b < l.plans.length) : pl l b ∈ l.plans := by unfold pl; rw [List.getD_eq_getElem?_getD, List.getElem?_eq_getElem h]; exact List.getElem_mem h
end Go.Proofs.Ytgcmklliafcffaa.LanP
