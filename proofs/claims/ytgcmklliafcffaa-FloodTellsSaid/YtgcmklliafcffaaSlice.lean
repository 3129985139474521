/-
  A slice whose elements are read: 'Sl', element for element, and what keeps it.
-/
import Derived.Test.YtgcmklliafcffaaRows
import Derived.WalkKit
import Derived.WalkSpells
import Derived.WalkLawsBesides
import Derived.BigQuiet
import Derived.Below
import Derived.Lib.Hide
import Derived.Laws.AppendOwn
import Derived.Laws.OwnMore
import Derived.Outline
namespace Go.Proofs.Ytgcmklliafcffaa.SliceP
open Go.RowKit
set_option linter.unusedVariables false

/-- A slice's elements, a list of cells each, 'size' of them: asked of a slice that has one. -/
def Sl (w : World) (size : Nat) (A : Option Addr) (xs : List (List Value)) : Prop :=
  xs ≠ [] → ∃ b o, A = some ⟨b, o, none⟩ ∧ b < w.heap.size ∧ ∀ k cs, xs[k]? = some cs → ∀ j v, cs[j]? = some v → w.cell? ⟨b, o + k * size + j, none⟩ = some v
section
variable {w w' : World} {size : Nat} {A : Option Addr} {xs : List (List Value)}
theorem Sl.nil : Sl w size A [] := fun h => absurd rfl h
theorem Sl.keep (h : Sl w size A xs) (hs : w.heap.size ≤ w'.heap.size) (hc : ∀ p : Addr, p.block < w.heap.size → w'.cell? p = w.cell? p) : Sl w' size A xs := fun hn => by
  obtain ⟨b, o, rfl, hb, hx⟩ := h hn
  exact ⟨b, o, rfl, by omega, fun k cs hk j v hj => (hc _ hb).trans (hx k cs hk j v hj)⟩
theorem Sl.below (h : Sl w size A xs) (hb : Below w.heap.size w w') : Sl w' size A xs := h.keep hb.size fun p hp => hb.cell hp
theorem Sl.alloc (h : Sl w size A xs) (o : Obj) : Sl (w.alloc o) size A xs := h.below ((Below.refl _ _).alloc (Nat.le_refl _) _)
theorem Sl.at_ (h : Sl w size A xs) {k : Nat} {cs : List Value} (hk : xs[k]? = some cs) : ∃ b o, A = some ⟨b, o, none⟩ ∧ b < w.heap.size ∧ ∀ j v, cs[j]? = some v → w.cell? ⟨b, o + k * size + j, none⟩ = some v := by
  obtain ⟨b, o, rfl, hb, hx⟩ := h (by rintro rfl; simp at hk)
  exact ⟨b, o, rfl, hb, fun j v hj => hx k cs hk j v hj⟩
theorem Sl.take (h : Sl w size A xs) (n : Nat) : Sl w size A (xs.take n) := fun hn => by
  obtain ⟨b, o, rfl, hb, hx⟩ := h (by rintro rfl; simp at hn)
  refine ⟨b, o, rfl, hb, fun k cs hk => hx k cs ?_⟩
  rw [List.getElem?_take] at hk
  split at hk
  · exact hk
  · cases hk
theorem Sl.drop {b o : Nat} (h : Sl w size (some ⟨b, o, none⟩) xs) (n : Nat) : Sl w size (some ⟨b, o + n * size, none⟩) (xs.drop n) := fun hn => by
  obtain ⟨b', o', e, hb, hx⟩ := h (by rintro rfl; simp at hn)
  obtain ⟨rfl, rfl⟩ : b = b' ∧ o = o' := by simpa using e
  refine ⟨b, o + n * size, rfl, hb, fun k cs hk j v hj => ?_⟩
  rw [List.getElem?_drop] at hk
  have := hx (n + k) cs hk j v hj
  rw [Nat.add_mul, ← Nat.add_assoc] at this
  exact this
theorem getElem?_flatten {α : Type} : ∀ (xs : List (List α)) (size k j : Nat) (cs : List α) (v : α), (∀ c ∈ xs, c.length = size) → xs[k]? = some cs → cs[j]? = some v → xs.flatten[k * size + j]? = some v
  | [], _, k, _, _, _, _, h, _ => by simp at h
  | c :: xs, size, 0, j, cs, v, hl, hk, hj => by
    simp only [List.getElem?_cons_zero, Option.some.injEq] at hk
    subst hk
    have : j < c.length := (List.getElem?_eq_some_iff.1 hj).1
    rw [List.flatten_cons, Nat.zero_mul, Nat.zero_add, List.getElem?_append_left this, hj]
  | c :: xs, size, k + 1, j, cs, v, hl, hk, hj => by
    have hc : c.length = size := hl c (by simp)
    rw [List.flatten_cons, List.getElem?_append_right (by rw [hc, Nat.add_mul]; omega)]
    have := getElem?_flatten xs size k j cs v (fun c' h' => hl c' (by simp [h'])) (by simpa using hk) hj
    rw [show (k + 1) * size + j - c.length = k * size + j by rw [hc, Nat.add_mul]; omega]
    exact this
theorem flatten_length {α : Type} : ∀ (xs : List (List α)) (size : Nat), (∀ c ∈ xs, c.length = size) → xs.flatten.length = xs.length * size
  | [], _, _ => by simp
  | c :: xs, size, hl => by
    rw [List.flatten_cons, List.length_append, flatten_length xs size (fun c' h' => hl c' (by simp [h'])), hl c (by simp), List.length_cons, Nat.add_mul]; omega
theorem Sl.of_own {base c n : Nat} {e : TypeId} {fl : List Value} (h : w.ownsRow base e size (.slice A n c) n fl) (hx : fl = xs.flatten) (hl : ∀ cs ∈ xs, cs.length = size) (h0 : 0 < size) : Sl w size A xs := fun hn => by
  subst hx
  have hlen := h.1
  rw [flatten_length xs size hl] at hlen
  have hpos : 0 < xs.length := List.length_pos_iff.2 hn
  have hn0 : n = xs.length := (Nat.mul_right_cancel h0 hlen).symm
  rcases h.2 with ⟨_, h1⟩ | ⟨g, cap, cur, hv, hb, hg, _, _, _, _⟩
  · omega
  have hA : A = some ⟨g, 0, none⟩ := by injection hv
  subst hA
  have hlt : g < w.heap.size := (Array.getElem?_eq_some_iff.1 hg).1
  refine ⟨g, 0, rfl, hlt, fun k cs hk j v hj => ?_⟩
  have hf := getElem?_flatten xs size k j cs v hl hk hj
  have := h.cells (g := g) rfl _ _ hf
  have e : (⟨g, 0, none⟩ : Addr).add (k * size + j) = ⟨g, 0 + k * size + j, none⟩ := by
    unfold Addr.add
    by_cases hz : k * size + j = 0
    · rw [if_pos hz]; congr 1; omega
    · rw [if_neg hz]; show (⟨g, 0 + (k * size + j), none⟩ : Addr) = _; rw [Nat.add_assoc]
  rw [← e]
  exact this
end
end Go.Proofs.Ytgcmklliafcffaa.SliceP
