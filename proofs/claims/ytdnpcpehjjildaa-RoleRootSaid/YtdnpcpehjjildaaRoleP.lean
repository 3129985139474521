/-
  Rows of infos that a call owns; one of them written.
-/
import Derived.Test.YtdnpcpehjjildaaRoleM
namespace Go.Proofs.Ytdnpcpehjjildaa.RoleP
open Go.RowKit Go.Sort Go.Proofs.Ytdnpcpehjjildaa.SliceP Go.Proofs.Ytdnpcpehjjildaa.BoxP Go.Proofs.Ytdnpcpehjjildaa.VecP
set_option linter.unusedVariables false
set_option maxRecDepth 100000
theorem elN : ElemT Try.prog 24 49 6 := ElemT.mk' (z := nv false 0 0 0 0 0) (bytes := 48) Try.underlying24 (by kernel_rfl) (by decide) rfl (by decide)
theorem wholeN (l : List N) : Whole 6 (l.map N.cells) := fun cs hc => by
  obtain ⟨x, _, rfl⟩ := List.mem_map.1 hc
  exact ⟨rfl, fun u hu => by simp only [N.cells, List.mem_cons, List.not_mem_nil, or_false] at hu; rcases hu with rfl | rfl | rfl | rfl | rfl | rfl <;> rfl⟩
abbrev OwnN (w : World) (B : Nat) (v : Value) (l : List N) : Prop := Own w B 49 6 v (l.map N.cells)
theorem ownN_made (w : World) : OwnN (w.alloc (.cells #[] 49)) w.heap.size (.slice (some ⟨w.heap.size, 0, none⟩) 0 0) [] := ⟨World.ownsRow_made w #[] 0 (Nat.le_refl _) (by unfold maxLen; omega) rfl, Whole.nil⟩
/-- One of them is written anew, cell for cell. -/
abbrev put6 (w : World) (g o : Nat) (x : N) : World := ((((((w.setCell ⟨g, o, none⟩ (.bool x.has)).setCell ⟨g, o + 1, none⟩ (.int .i64 x.v.r)).setCell ⟨g, o + 2, none⟩ (.int .i64 x.v.c)).setCell ⟨g, o + 3, none⟩ (.int .i64 x.v.b)).setCell ⟨g, o + 4, none⟩ (.int .i64 x.v.p)).setCell ⟨g, o + 5, none⟩ (.int .i64 x.age))
theorem put6_heap {w : World} {g o : Nat} {cur : Array Value} {T : TypeId} (x : N) (h : w.heap[g]? = some (.cells cur T (0, 0))) :
    (put6 w g o x).heap[g]? = some (.cells ((((((cur.setIfInBounds o (.bool x.has)).setIfInBounds (o + 1) (.int .i64 x.v.r)).setIfInBounds (o + 2) (.int .i64 x.v.c)).setIfInBounds (o + 3) (.int .i64 x.v.b)).setIfInBounds (o + 4) (.int .i64 x.v.p)).setIfInBounds (o + 5) (.int .i64 x.age)) T (0, 0)) :=
  heap_setCell_same _ _ _ _ _ _ (heap_setCell_same _ _ _ _ _ _ (heap_setCell_same _ _ _ _ _ _ (heap_setCell_same _ _ _ _ _ _ (heap_setCell_same _ _ _ _ _ _ (heap_setCell_same _ _ _ _ _ _ h)))))
theorem set6_at (cur : Array Value) (o : Nat) (v0 v1 v2 v3 v4 v5 : Value) (h : o + 6 ≤ cur.size) (i : Nat) (hi : i < 6) :
    ((((((cur.setIfInBounds o v0).setIfInBounds (o + 1) v1).setIfInBounds (o + 2) v2).setIfInBounds (o + 3) v3).setIfInBounds (o + 4) v4).setIfInBounds (o + 5) v5)[o + i]? = [v0, v1, v2, v3, v4, v5][i]? := by
  have hs9 : i = 0 ∨ i = 1 ∨ i = 2 ∨ i = 3 ∨ i = 4 ∨ i = 5 := by omega
  rcases hs9 with rfl | rfl | rfl | rfl | rfl | rfl
  · rw [Array.getElem?_setIfInBounds_ne (by omega), Array.getElem?_setIfInBounds_ne (by omega), Array.getElem?_setIfInBounds_ne (by omega), Array.getElem?_setIfInBounds_ne (by omega), Array.getElem?_setIfInBounds_ne (by omega), Nat.add_zero, Array.getElem?_setIfInBounds_self_of_lt (by omega)]; rfl
  · rw [Array.getElem?_setIfInBounds_ne (by omega), Array.getElem?_setIfInBounds_ne (by omega), Array.getElem?_setIfInBounds_ne (by omega), Array.getElem?_setIfInBounds_ne (by omega), Array.getElem?_setIfInBounds_self_of_lt (by simp only [Array.size_setIfInBounds]; omega)]; rfl
  · rw [Array.getElem?_setIfInBounds_ne (by omega), Array.getElem?_setIfInBounds_ne (by omega), Array.getElem?_setIfInBounds_ne (by omega), Array.getElem?_setIfInBounds_self_of_lt (by simp only [Array.size_setIfInBounds]; omega)]; rfl
  · rw [Array.getElem?_setIfInBounds_ne (by omega), Array.getElem?_setIfInBounds_ne (by omega), Array.getElem?_setIfInBounds_self_of_lt (by simp only [Array.size_setIfInBounds]; omega)]; rfl
  · rw [Array.getElem?_setIfInBounds_ne (by omega), Array.getElem?_setIfInBounds_self_of_lt (by simp only [Array.size_setIfInBounds]; omega)]; rfl
  · rw [Array.getElem?_setIfInBounds_self_of_lt (by simp only [Array.size_setIfInBounds]; omega)]; rfl
theorem set6_off (cur : Array Value) (o : Nat) (v0 v1 v2 v3 v4 v5 : Value) (m : Nat) (h : m < o ∨ o + 6 ≤ m) :
    ((((((cur.setIfInBounds o v0).setIfInBounds (o + 1) v1).setIfInBounds (o + 2) v2).setIfInBounds (o + 3) v3).setIfInBounds (o + 4) v4).setIfInBounds (o + 5) v5)[m]? = cur[m]? := by
  rw [Array.getElem?_setIfInBounds_ne (by omega), Array.getElem?_setIfInBounds_ne (by omega), Array.getElem?_setIfInBounds_ne (by omega), Array.getElem?_setIfInBounds_ne (by omega), Array.getElem?_setIfInBounds_ne (by omega), Array.getElem?_setIfInBounds_ne (by omega)]
theorem OwnN.put {w : World} {B n c : Nat} {A : Option Addr} {l : List N} (h : OwnN w B (.slice A n c) l) {j : Nat} (hj : j < l.length) (x : N) :
    ∃ g, A = some ⟨g, 0, none⟩ ∧ B ≤ g ∧ g < w.heap.size ∧ n = l.length ∧ n ≤ c ∧ c ≤ maxLen ∧ (∀ i, i < 6 → w.frozen? ⟨g, j * 6 + i, none⟩ = false) ∧ RowN (put6 w g (j * 6) x) (some ⟨g, 0, none⟩) l.length c (l.set j x) := by
  have hsl := Own.sl h (by decide)
  rcases h.row.2 with ⟨h1, h2⟩ | ⟨g, cap, cur, h1, hb, hg, hn, hm, hcs, htk⟩
  · rw [List.length_map] at h2; omega
  · injection h1 with e1 e2 e3
    subst e1 e2 e3
    rw [List.length_map] at hn
    have hsz : j * 6 + 6 ≤ cur.size := by rw [hcs]; have : (j + 1) * 6 ≤ c * 6 := Nat.mul_le_mul_right 6 (by omega); omega
    refine ⟨g, rfl, hb, (Array.getElem?_eq_some_iff.1 hg).1, List.length_map .., by rw [List.length_map]; exact hn, hm, fun i hi => frozen_of_row w g _ _ _ hg, ⟨by rw [List.length_set], ?_, hn, fun e => by cases e⟩⟩
    intro _
    have hp := put6_heap (o := j * 6) x hg
    refine ⟨g, 0, rfl, (Array.getElem?_eq_some_iff.1 hp).1, fun k cs hk i v hi => ?_⟩
    have hp' := cell_of_row _ g (0 + k * 6 + i) _ _ _ hp
    refine hp'.trans ?_
    clear hp hp'
    rw [List.getElem?_map, List.getElem?_set] at hk
    by_cases e : j = k
    · subst e
      rw [if_pos rfl, if_pos hj] at hk
      obtain rfl : x.cells = cs := by simpa using hk
      have hi6 : i < 6 := (List.getElem?_eq_some_iff.1 hi).1
      rw [Nat.zero_add, set6_at _ _ _ _ _ _ _ _ hsz i hi6]
      exact hi
    · rw [if_neg e] at hk
      have hk' : (l.map N.cells)[k]? = some cs := by rw [List.getElem?_map]; exact hk
      have hi6 : i < 6 := by
        have := ((wholeN l) cs (List.mem_of_getElem? hk')).1
        have h9 := (List.getElem?_eq_some_iff.1 hi).1
        omega
      obtain ⟨b, o, e9, _, hx⟩ := Sl.at_ hsl hk'
      obtain ⟨rfl, rfl⟩ : g = b ∧ 0 = o := by simpa using e9
      have h8 := hx i v hi
      rw [cell_of_row _ _ _ _ _ _ hg] at h8
      rw [← h8]
      exact set6_off _ _ _ _ _ _ _ _ _ (by omega)
end Go.Proofs.Ytdnpcpehjjildaa.RoleP
