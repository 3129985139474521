/-
  Plain facts of the best vec, and of vecs in order.
-/
import Derived.Test.YtanceablbmgblaaVecJ
namespace Go.Proofs.Ytanceablbmgblaa.VecP
open Go.RowKit Go.Sort Go.Proofs.Ytanceablbmgblaa.SliceP
set_option linter.unusedVariables false

theorem V.bet_self (x : V) : x.bet x = false := betB_self ..
theorem V.bet_trans {x y z : V} (h : x.bet y = true) (h1 : y.bet z = true) : x.bet z = true := betB_trans h h1
theorem V.bet_ntrans {x y z : V} (h : x.bet y = false) (h1 : y.bet z = false) : x.bet z = false := swo.ntrans x y z h h1
theorem V.bet_anti {x y : V} (h : x.bet y = false) (h1 : y.bet x = false) : x = y := VecP.bet_anti x y h h1

theorem bestI_spec (l : List V) : ∀ k, k ≤ l.length → ∀ y, l[bestI l k]? = some y →
    (∀ i x, i < k → l[i]? = some x → x.bet y = false) ∧ (∀ i x, i < bestI l k → l[i]? = some x → y.bet x = true)
  | 0, _, y, _ => ⟨fun i x h => by omega, fun i x h => by simp [bestI] at h⟩
  | k + 1, hk, y, hy => by
    obtain ⟨x, hx⟩ : ∃ x, l[k]? = some x := ⟨_, List.getElem?_eq_getElem (by omega)⟩
    have hm := bestI_lt l k (by omega) (by omega)
    obtain ⟨z, hz⟩ : ∃ z, l[bestI l k]? = some z := ⟨_, List.getElem?_eq_getElem hm⟩
    obtain ⟨h1, h2⟩ := bestI_spec l k (by omega) z hz
    cases hb : x.bet z
    · have e := bestI_no hx hz hb
      rw [e] at hy ⊢
      obtain rfl : y = z := by have := hy.symm.trans hz; injection this
      refine ⟨fun i u hi hu => ?_, h2⟩
      by_cases e : i = k
      · subst e
        obtain rfl : u = x := by have := hu.symm.trans hx; injection this
        exact hb
      · exact h1 i u (by omega) hu
    · have e := bestI_yes hx hz hb
      rw [e] at hy ⊢
      obtain rfl : y = x := by have := hy.symm.trans hx; injection this
      have h3 : ∀ i u, i < k → l[i]? = some u → y.bet u = true := fun i u hi hu => by
        cases hq : y.bet u
        · have := V.bet_ntrans hq (h1 i u hi hu)
          rw [hb] at this; cases this
        · rfl
      refine ⟨fun i u hi hu => ?_, fun i u hi hu => h3 i u hi hu⟩
      by_cases e : i = k
      · subst e
        obtain rfl : u = y := by have := hu.symm.trans hx; injection this
        exact V.bet_self _
      · cases hq : u.bet y
        · rfl
        · have := V.bet_trans (h3 i u (by omega) hu) hq
          rw [V.bet_self] at this; cases this

theorem msort_perm (l : List V) : List.Perm (msort l) l := List.mergeSort_perm ..
theorem msort_pairs (l : List V) : (msort l).Pairwise fun x y => (!(y.bet x)) = true := by
  refine List.pairwise_mergeSort ?_ ?_ l
  · intro a b c h1 h2
    simp only [Bool.not_eq_true'] at *
    exact V.bet_ntrans h2 h1
  · intro a b
    cases h : b.bet a
    · rfl
    · cases h1 : a.bet b
      · rfl
      · have := V.bet_trans h h1
        rw [V.bet_self] at this; cases this
theorem msort_next {l : List V} {i : Nat} {x y : V} (h : (msort l)[i]? = some x) (h1 : (msort l)[i + 1]? = some y) : y.bet x = false := by
  have := msort_pairs l
  rw [List.pairwise_iff_getElem] at this
  obtain ⟨hi, rfl⟩ := List.getElem?_eq_some_iff.1 h
  obtain ⟨hj, rfl⟩ := List.getElem?_eq_some_iff.1 h1
  simpa using this i (i + 1) hi hj (by omega)
theorem msort_head {l : List V} {x y : V} (h : (msort l)[0]? = some x) (h1 : l[bestI l l.length]? = some y) : x = y := by
  obtain ⟨hb, _⟩ := bestI_spec l l.length (Nat.le_refl _) y h1
  have hx : x ∈ l := (msort_perm l).subset (List.mem_of_getElem? h)
  have hy : y ∈ msort l := (msort_perm l).symm.subset (List.mem_of_getElem? h1)
  obtain ⟨i, hi⟩ := List.getElem?_of_mem hx
  obtain ⟨j, hj⟩ := List.getElem?_of_mem hy
  have e1 : x.bet y = false := hb i x (List.getElem?_eq_some_iff.1 hi).1 hi
  have e2 : y.bet x = false := by
    by_cases e : j = 0
    · subst e
      obtain rfl : x = y := by have := h.symm.trans hj; injection this
      exact V.bet_self _
    · have := msort_pairs l
      rw [List.pairwise_iff_getElem] at this
      obtain ⟨h0', rfl⟩ := List.getElem?_eq_some_iff.1 h
      obtain ⟨hj', rfl⟩ := List.getElem?_eq_some_iff.1 hj
      simpa using this 0 j h0' hj' (by omega)
  exact V.bet_anti e1 e2

/-- How often v is among the first k, less how often it is among the others' first k. -/
def diff (l s : List V) (v : V) (k : Nat) : Int := ((l.take k).count v : Int) - ((s.take k).count v : Int)
theorem count_step {l : List V} {k : Nat} {x v : V} (h : l[k]? = some x) : (l.take (k + 1)).count v = (l.take k).count v + if x = v then 1 else 0 := by
  rw [List.take_add_one, h, List.count_append]
  simp [List.count_singleton]
theorem diff_step {l s : List V} {v x y : V} {k : Nat} (h : l[k]? = some x) (h1 : s[k]? = some y) : diff l s v (k + 1) = diff l s v k + (if x = v then 1 else 0) - (if y = v then 1 else 0) := by
  unfold diff
  rw [count_step h, count_step h1]
  split <;> split <;> omega
theorem diff_val {d D : Int} {P Q : Prop} [Decidable P] [Decidable Q] (h : D = d + (if P then 1 else 0) - (if Q then 1 else 0)) {a b : Bool} (ha : decide P = a) (hb : decide Q = b) : D = d + (if a = true then 1 else 0) - (if b = true then 1 else 0) := by
  subst ha; subst hb; simpa using h
theorem diff_bd (l s : List V) (v : V) (k : Nat) : -(k : Int) ≤ diff l s v k ∧ diff l s v k ≤ k := by
  unfold diff
  have h1 := List.count_le_length (a := v) (l := l.take k)
  have h2 := List.count_le_length (a := v) (l := s.take k)
  rw [List.length_take] at h1 h2
  omega
theorem diff_end (l : List V) (v : V) : diff l (msort l) v l.length = 0 := by
  unfold diff
  rw [List.take_of_length_le (Nat.le_refl _), List.take_of_length_le (by rw [msort_length]; omega), (msort_perm l).count_eq]
  omega

/-- Two vecs held against each other, part for part. -/
theorem eq_ways (x v : V) : (x = v) ∨ (x ≠ v ∧ (x.r == v.r) = false) ∨ (x ≠ v ∧ (x.r == v.r) = true ∧ (x.c == v.c) = false) ∨ (x ≠ v ∧ (x.r == v.r) = true ∧ (x.c == v.c) = true ∧ (x.b == v.b) = false) ∨ (x ≠ v ∧ (x.r == v.r) = true ∧ (x.c == v.c) = true ∧ (x.b == v.b) = true ∧ (x.p == v.p) = false) := by
  obtain ⟨r, c, b, p⟩ := x
  obtain ⟨r2, c2, b2, p2⟩ := v
  simp only [V.mk.injEq, beq_eq_false_iff_ne, beq_iff_eq, ne_eq]
  by_cases h1 : r = r2 <;> by_cases h2 : c = c2 <;> by_cases h3 : b = b2 <;> by_cases h4 : p = p2 <;> simp [h1, h2, h3, h4]
theorem eql_vec (x y : V) (w : World) : (binOp .eql 23 x.val y.val).run Try.prog w = .ok (.bool (decide (x = y))) w := by
  rcases eq_ways x y with rfl | ⟨h, h1⟩ | ⟨h, h1, h2⟩ | ⟨h, h1, h2, h3⟩ | ⟨h, h1, h2, h3, h4⟩
  · go_simp
  all_goals
    go_simp
end Go.Proofs.Ytanceablbmgblaa.VecP
