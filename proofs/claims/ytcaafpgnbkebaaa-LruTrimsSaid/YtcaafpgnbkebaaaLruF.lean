/-
  Plain facts on rows of ints, and on numbers that are cut.
-/
import Derived.Test.YtcaafpgnbkebaaaLruE
namespace Go.Proofs.Ytcaafpgnbkebaaa.LruP
open Go.RowKit Go.Sort Go.Proofs.Ytcaafpgnbkebaaa.SliceP Go.Proofs.Ytcaafpgnbkebaaa.IntP
set_option linter.unusedVariables false
set_option maxRecDepth 100000

theorem cut_bd (n m : Int) (h0 : 0 < m) (h1 : m ≤ 1099511627776) : 0 ≤ wrap64 ((IntKind.u64.wrap n).tmod m) ∧ wrap64 ((IntKind.u64.wrap n).tmod m) < m := by
  have h2 : 0 ≤ IntKind.u64.wrap n := by simp [IntKind.wrap, IntKind.signed]; exact Int.emod_nonneg _ (by decide)
  have e : (IntKind.u64.wrap n).tmod m = IntKind.u64.wrap n % m := Int.tmod_eq_emod_of_nonneg h2
  have h3 := Int.emod_nonneg (IntKind.u64.wrap n) (show m ≠ 0 by omega)
  have h4 := Int.emod_lt_of_pos (IntKind.u64.wrap n) h0
  rw [e]
  have e2 : wrap64 (IntKind.u64.wrap n % m) = IntKind.u64.wrap n % m := IntWalk.wrap64_in _ (by omega)
  rw [e2]
  exact ⟨h3, h4⟩
theorem without_mem {l : List Int} {x y : Int} : y ∈ without l x ↔ y ∈ l ∧ y ≠ x := by
  unfold without; rw [List.mem_filter]; simp
theorem without_sub (l : List Int) (x : Int) : (without l x).Sublist l := List.filter_sublist
theorem without_same {l : List Int} {x : Int} (h : x ∉ l) : without l x = l := by
  unfold without
  rw [List.filter_eq_self]
  intro y hy
  have : y ≠ x := by rintro rfl; exact h hy
  simpa using this
theorem notin_without (l : List Int) (x : Int) : x ∉ without l x := fun h => (without_mem.1 h).2 rfl
theorem without_cons {l : List Int} {x : Int} (h : x ∉ l) : without (x :: l) x = l := by
  have := without_same h
  unfold without at *
  rw [List.filter_cons, if_neg (by simp)]
  exact this
theorem right_sub {l m : List Int} (h : rightI l = true) (hs : m.Sublist l) : rightI m = true := by
  rw [right_iff] at h ⊢
  exact ⟨Nat.le_trans hs.length_le h.1, h.2.1.sublist hs, fun y hy => h.2.2 y (hs.subset hy)⟩
theorem right_without {l : List Int} (h : rightI l = true) (x : Int) : rightI (without l x) = true := right_sub h (without_sub l x)
theorem right_cons {l : List Int} {x : Int} (h : rightI l = true) (h0 : 0 ≤ x) (hn : x ∉ l) (hl : l.length ≠ 64) : rightI (x :: l) = true := by
  rw [right_iff] at h ⊢
  obtain ⟨h1, h2, h3⟩ := h
  refine ⟨by simp only [List.length_cons]; omega, List.nodup_cons.2 ⟨hn, h2⟩, fun y hy => ?_⟩
  rcases List.mem_cons.1 hy with rfl | hy
  · exact h0
  · exact h3 y hy
theorem without_len {l : List Int} {x : Int} (h : rightI l = true) (hx : hasI l x = true) : (without l x).length + 1 = l.length := by
  have hm := has_true.1 hx
  have e : without l x = l.erase x := by
    unfold without
    rw [(right_iff.1 h).2.1.erase_eq_filter]
  have := List.length_pos_of_mem hm
  rw [e, List.length_erase_of_mem hm]; omega
theorem eq_len {a n : Nat} (h : a = n) : (((a : Nat) : Int) == ((n : Nat) : Int)) = true := by subst h; simp
end Go.Proofs.Ytcaafpgnbkebaaa.LruP
