/-
  The least root, port after port; how many root ports there are.
-/
import Derived.Test.YtdnpcpehjjildaaRoleN
namespace Go.Proofs.Ytdnpcpehjjildaa.RoleP
open Go.RowKit Go.Sort Go.Proofs.Ytdnpcpehjjildaa.SliceP Go.Proofs.Ytdnpcpehjjildaa.BoxP Go.Proofs.Ytdnpcpehjjildaa.VecP
open Go.Proofs.Ytdnpcpehjjildaa.IntP (RowI SlI OwnI)
open Go.Proofs.Ytdnpcpehjjildaa.BoolP (RowB SlB)
set_option linter.unusedVariables false
set_option maxRecDepth 100000
section
variable {s : S}
def S.least (s : S) : Nat → Int
  | 0 => s.id
  | k + 1 => if (s.info k).has = true then (if (s.info k).v.r < s.least k then (s.info k).v.r else s.least k) else s.least k
def S.rts (s : S) (k : Nat) : Int := match s.root with | some b => if b < k then 1 else 0 | none => 0
theorem least_yes {k : Nat} {x : N} {m : Int} (hx : s.info k = x) (h : x.has = true) (hm : (if x.v.r < s.least k then x.v.r else s.least k) = m) : s.least (k + 1) = m := by
  rw [S.least, hx, if_pos h]; exact hm
theorem least_no {k : Nat} {x : N} (hx : s.info k = x) (h : x.has = false) : s.least (k + 1) = s.least k := by
  rw [S.least, hx, if_neg (by rw [h]; simp)]
theorem least_id : ∀ k, s.least k ≤ s.id
  | 0 => Int.le_refl _
  | k + 1 => by
    have := least_id k
    rw [S.least]
    split
    · split <;> omega
    · omega
theorem least_le : ∀ {k j : Nat}, j < k → (s.info j).has = true → s.least k ≤ (s.info j).v.r
  | k + 1, j, h, hh => by
    rw [S.least]
    by_cases e : j = k
    · subst e
      rw [if_pos hh]
      split <;> omega
    · have := least_le (k := k) (j := j) (by omega) hh
      split
      · split <;> omega
      · omega
theorem le_least {m : Int} (h0 : m ≤ s.id) : ∀ {k : Nat}, (∀ j, j < k → (s.info j).has = true → m ≤ (s.info j).v.r) → m ≤ s.least k
  | 0, _ => h0
  | k + 1, h => by
    have h1 := le_least h0 (k := k) fun j hj hh => h j (by omega) hh
    rw [S.least]
    split
    · have := h k (by omega) (by assumption)
      split <;> omega
    · exact h1
theorem least_end : s.least s.infos.length = (s.tells 0).r := by
  obtain ⟨h1, h2, h3, h4⟩ := tells_least (s := s) 0
  have h5 := le_least h1 h2
  cases hr : s.root with
  | none => have := h3 hr; have := least_id (s := s) s.infos.length; omega
  | some b =>
    obtain ⟨h6, h7⟩ := root_lt hr
    have := (h4 b hr).1
    have := least_le h6 h7
    omega
theorem rts_yes {k : Nat} (h : s.root = some k) : s.rts k = 0 ∧ s.rts (k + 1) = 1 := by
  unfold S.rts; rw [h]; simp
theorem rts_no {k : Nat} (h : s.root ≠ some k) : s.rts (k + 1) = s.rts k := by
  unfold S.rts
  cases hr : s.root with
  | none => rfl
  | some b =>
    have : b ≠ k := fun e => h (by rw [hr, e])
    simp only
    by_cases hb : b < k
    · rw [if_pos hb, if_pos (by omega)]
    · rw [if_neg hb, if_neg (by omega)]
theorem rts_bd (k : Nat) : 0 ≤ s.rts k ∧ s.rts k ≤ 1 := by
  unfold S.rts
  split
  · split <;> omega
  · omega
theorem roles_at {k : Nat} (h : k < s.costs.length) : s.roles[k]? = some (s.role k) := by
  unfold S.roles
  rw [List.getElem?_map, List.getElem?_range h]; rfl
theorem roles_len : s.roles.length = s.costs.length := by unfold S.roles; rw [List.length_map, List.length_range]
end
/-- Two vecs held against each other, part for part. -/
theorem eq_ways (x v : V) : (x = v) ∨ (x ≠ v ∧ (x.r == v.r) = false) ∨ (x ≠ v ∧ (x.r == v.r) = true ∧ (x.c == v.c) = false) ∨ (x ≠ v ∧ (x.r == v.r) = true ∧ (x.c == v.c) = true ∧ (x.b == v.b) = false) ∨ (x ≠ v ∧ (x.r == v.r) = true ∧ (x.c == v.c) = true ∧ (x.b == v.b) = true ∧ (x.p == v.p) = false) := by
  obtain ⟨r, c, b, p⟩ := x
  obtain ⟨r2, c2, b2, p2⟩ := v
  simp only [V.mk.injEq, beq_eq_false_iff_ne, beq_iff_eq, ne_eq]
  by_cases h1 : r = r2 <;> by_cases h2 : c = c2 <;> by_cases h3 : b = b2 <;> by_cases h4 : p = p2 <;> simp [h1, h2, h3, h4]
theorem eql_vec (x y : V) (w : World) : (binOp .eql 29 (vg x) (vg y)).run Try.prog w = .ok (.bool (decide (x = y))) w := by
  rcases eq_ways x y with rfl | ⟨h, h1⟩ | ⟨h, h1, h2⟩ | ⟨h, h1, h2, h3⟩ | ⟨h, h1, h2, h3, h4⟩
  · go_simp
  all_goals
    go_simp
end Go.Proofs.Ytdnpcpehjjildaa.RoleP
