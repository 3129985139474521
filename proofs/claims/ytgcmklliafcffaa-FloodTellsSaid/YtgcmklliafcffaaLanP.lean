/-
  A cell of an element of an owned row written.
-/
import Derived.Test.YtgcmklliafcffaaLanE
import Derived.Test.YtgcmklliafcffaaRowK
namespace Go.Proofs.Ytgcmklliafcffaa.LanP
open Go.RowKit Go.Sort Go.Proofs.Ytgcmklliafcffaa.SliceP Go.Proofs.Ytgcmklliafcffaa.BoxP
set_option linter.unusedVariables false
theorem flat_set1 {α : Type} : ∀ (xs : List (List α)) (sz j i : Nat) (cs : List α) (v : α), (∀ c ∈ xs, c.length = sz) → xs[j]? = some cs → i < sz → (xs.set j (cs.set i v)).flatten = xs.flatten.set (j * sz + i) v
  | [], _, _, _, _, _, _, h, _ => by simp at h
  | c :: xs, sz, 0, i, cs, v, hl, hk, hi => by
    simp only [List.getElem?_cons_zero, Option.some.injEq] at hk
    subst hk
    have hc : c.length = sz := hl c (by simp)
    rw [List.set_cons_zero, List.flatten_cons, List.flatten_cons, Nat.zero_mul, Nat.zero_add, List.set_append_left _ _ (by omega)]
  | c :: xs, sz, j + 1, i, cs, v, hl, hk, hi => by
    have hc : c.length = sz := hl c (by simp)
    rw [List.set_cons_succ, List.flatten_cons, List.flatten_cons, flat_set1 xs sz j i cs v (fun d hd => hl d (by simp [hd])) (by simpa using hk) hi, List.set_append_right _ _ (by rw [hc, Nat.add_mul]; omega)]
    congr 2
    rw [hc, Nat.add_mul]; omega
theorem own_put {w : World} {B g n c sz j i : Nat} {e : TypeId} {xs : List (List Value)} {cs : List Value} (h : Own w B e sz (.slice (some ⟨g, 0, none⟩) n c) xs) (hj : xs[j]? = some cs) (hi : i < sz) {v : Value} (h1 : v.oneCell' = true) :
    Own (w.setCell ⟨g, j * sz + i, none⟩ v) B e sz (.slice (some ⟨g, 0, none⟩) n c) (xs.set j (cs.set i v)) := by
  obtain ⟨⟨hlen, hrow⟩, hwh⟩ := h
  have hcs : cs.length = sz := (hwh cs (List.mem_of_getElem? hj)).1
  have hw2 : Whole sz (xs.set j (cs.set i v)) := hwh.set (by rw [List.length_set]; exact hcs) (fun u hu => by
    rcases List.mem_or_eq_of_mem_set hu with hu | rfl
    · exact (hwh cs (List.mem_of_getElem? hj)).2 u hu
    · exact h1) j
  refine ⟨⟨by rw [hw2.len], ?_⟩, hw2⟩
  rcases hrow with ⟨h1, h2⟩ | ⟨g', cap, cur, e1, hb, hg, hn, hm, hsz, htk⟩
  · cases h1
  · injection e1 with e1 e2 e3
    obtain rfl : g = g' := by injection e1 with e1; injection e1
    subst e2 e3
    rw [List.length_set]
    refine .inr ⟨g, c, _, rfl, hb, heap_setCell_same w g (j * sz + i) cur e v hg, hn, hm, by rw [Array.size_setIfInBounds]; exact hsz, ?_⟩
    rw [flat_set1 xs sz j i cs v (fun d hd => (hwh d hd).1) hj hi, ← htk, Array.toList_setIfInBounds, List.take_set]
theorem own_cell {w : World} {B g n c sz j i : Nat} {e : TypeId} {xs : List (List Value)} {cs : List Value} (h : Own w B e sz (.slice (some ⟨g, 0, none⟩) n c) xs) (h0 : 0 < sz) (hj : xs[j]? = some cs) {v : Value} (hi : cs[i]? = some v) : w.cell? ⟨g, j * sz + i, none⟩ = some v := by
  obtain ⟨b, o, e9, _, hx⟩ := Sl.at_ (Own.sl h h0) hj
  obtain ⟨rfl, rfl⟩ : g = b ∧ 0 = o := by simpa using e9
  have := hx i v hi
  rwa [Nat.zero_add] at this
theorem own_free {w : World} {B g n c sz : Nat} {e : TypeId} {xs : List (List Value)} (h : Own w B e sz (.slice (some ⟨g, 0, none⟩) n c) xs) (o : Nat) : w.frozen? ⟨g, o, none⟩ = false ∧ g < w.heap.size := by
  rcases h.row.2 with ⟨h2, _⟩ | ⟨g', cap, cur, e1, hb, hg, _⟩
  · cases h2
  · obtain rfl : g = g' := by injection e1 with e1; injection e1 with e1; injection e1
    exact ⟨frozen_of_row w g o cur e hg, (Array.getElem?_eq_some_iff.1 hg).1⟩
theorem own_ptr {w : World} {B n c sz : Nat} {e : TypeId} {A : Option Addr} {xs : List (List Value)} (h : Own w B e sz (.slice A n c) xs) (h0 : xs ≠ []) : ∃ g, A = some ⟨g, 0, none⟩ ∧ B ≤ g ∧ g < w.heap.size := by
  obtain ⟨A', c', hv, _, _, hA⟩ := h.form
  injection hv with e1 e2 e3
  subst e1
  rcases hA with ⟨_, h1, _⟩ | h1
  · exact absurd h1 h0
  · exact h1
theorem own_put1 {w : World} {B g n c j : Nat} {e : TypeId} {xs : List (List Value)} (h : Own w B e 1 (.slice (some ⟨g, 0, none⟩) n c) xs) (hj : j < xs.length) {v : Value} (h1 : v.oneCell' = true) : Own (w.setCell ⟨g, j, none⟩ v) B e 1 (.slice (some ⟨g, 0, none⟩) n c) (xs.set j [v]) := by
  have hk : xs[j]? = some xs[j] := List.getElem?_eq_getElem hj
  have := own_put (i := 0) h hk (by decide) h1
  rw [Nat.mul_one, Nat.add_zero] at this
  have hl : (xs[j]).length = 1 := (h.whole _ (List.getElem_mem hj)).1
  have hx : (xs[j]).set 0 v = [v] := by
    match xs[j], hl with
    | [u], _ => rfl
  rwa [hx] at this
theorem own_put2 {w : World} {B g n c j : Nat} {e : TypeId} {xs : List (List Value)} (h : Own w B e 2 (.slice (some ⟨g, 0, none⟩) n c) xs) (hj : j < xs.length) {u v : Value} (h0 : u.oneCell' = true) (h1 : v.oneCell' = true) : Own ((w.setCell ⟨g, j * 2, none⟩ u).setCell ⟨g, j * 2 + 1, none⟩ v) B e 2 (.slice (some ⟨g, 0, none⟩) n c) (xs.set j [u, v]) := by
  have hk : xs[j]? = some xs[j] := List.getElem?_eq_getElem hj
  have a := own_put (i := 0) h hk (by decide) h0
  rw [Nat.add_zero] at a
  have b := own_put (i := 1) (j := j) a (by rw [List.getElem?_set_self hj]) (by decide) h1
  rw [List.set_set] at b
  have hl : (xs[j]).length = 2 := (h.whole _ (List.getElem_mem hj)).1
  have hx : ((xs[j]).set 0 u).set 1 v = [u, v] := by
    match xs[j], hl with
    | [p, q], _ => rfl
  rwa [hx] at b
end Go.Proofs.Ytgcmklliafcffaa.LanP
