/-
  What follows of a bridge's root, plainly.
-/
import Derived.Test.YtidoaccidmmalaaRoleX
namespace Go.Proofs.Ytidoaccidmmalaa.RoleP
open Go.RowKit Go.Sort Go.Proofs.Ytidoaccidmmalaa.SliceP Go.Proofs.Ytidoaccidmmalaa.BoxP Go.Proofs.Ytidoaccidmmalaa.VecP
set_option linter.unusedVariables false
set_option maxRecDepth 100000

theorem bet_iff {x y : V} : x.bet y = true ↔ (x.r < y.r ∨ x.r = y.r ∧ (x.c < y.c ∨ x.c = y.c ∧ (x.b < y.b ∨ x.b = y.b ∧ x.p < y.p))) := betB_iff _ _ _ _ _ _ _ _
theorem bet_no {x y : V} : x.bet y = false ↔ ¬ (x.r < y.r ∨ x.r = y.r ∧ (x.c < y.c ∨ x.c = y.c ∧ (x.b < y.b ∨ x.b = y.b ∧ x.p < y.p))) := betB_false _ _ _ _ _ _ _ _
section
variable {s : S}
/-- The best of the first k: none of these is better, and it is better than those ahead of it. -/
theorem best_least : ∀ {k b : Nat}, s.best k = some b → ∀ j, j < k → (s.info j).has = true → (s.way j).bet (s.way b) = false ∧ (j < b → (s.way b).bet (s.way j) = true)
  | 0, b, h, j, hj, _ => by omega
  | k + 1, b, h, j, hj, hh => by
    rw [S.best] at h
    by_cases c : (s.info k).has = true ∧ (∀ b, s.best k = some b → (s.way k).bet (s.way b) = true)
    · rw [if_pos c] at h
      obtain rfl := Option.some.inj h
      by_cases hjk : j = k
      · subst hjk
        exact ⟨by rw [bet_no]; omega, fun h => by omega⟩
      · have hj' : j < k := by omega
        cases hb : s.best k with
        | none =>
          exfalso
          have : ∀ m, s.best m = none → ∀ i, i < m → (s.info i).has = false := by
            intro m
            induction m with
            | zero => intro _ i hi; omega
            | succ m ih =>
              intro hm i hi
              rw [S.best] at hm
              by_cases c' : (s.info m).has = true ∧ (∀ b, s.best m = some b → (s.way m).bet (s.way b) = true)
              · rw [if_pos c'] at hm; cases hm
              · rw [if_neg c'] at hm
                by_cases hi' : i = m
                · subst hi'
                  cases hc : (s.info i).has with
                  | false => rfl
                  | true => exact absurd ⟨hc, fun b e => by rw [hm] at e; cases e⟩ c'
                · exact ih hm i (by omega)
          rw [this k hb j hj'] at hh
          cases hh
        | some b0 =>
          have hkb := c.2 b0 hb
          have hjb := (best_least hb j hj' hh).1
          rw [bet_iff] at hkb
          rw [bet_no] at hjb
          refine ⟨by rw [bet_no]; omega, fun _ => by rw [bet_iff]; omega⟩
    · rw [if_neg c] at h
      by_cases hjk : j = k
      · subst hjk
        refine ⟨?_, fun hlt => by have := (best_lt h).1; omega⟩
        cases hb : (s.way j).bet (s.way b) with
        | false => rfl
        | true => exact absurd ⟨hh, fun b' e => by rw [h] at e; obtain rfl := Option.some.inj e; exact hb⟩ c
      · exact best_least h j (by omega) hh
theorem best_none {k : Nat} (h : s.best k = none) : ∀ j, j < k → (s.info j).has = false := by
  induction k with
  | zero => intro j hj; omega
  | succ k ih =>
    intro j hj
    rw [S.best] at h
    by_cases c : (s.info k).has = true ∧ (∀ b, s.best k = some b → (s.way k).bet (s.way b) = true)
    · rw [if_pos c] at h; cases h
    · rw [if_neg c] at h
      by_cases hjk : j = k
      · subst hjk
        cases hc : (s.info j).has with
        | false => rfl
        | true => exact absurd ⟨hc, fun b e => by rw [h] at e; cases e⟩ c
      · exact ih h j (by omega)
theorem best_some {k j : Nat} (hj : j < k) (hh : (s.info j).has = true) : ∃ b, s.best k = some b := by
  cases h : s.best k with
  | some b => exact ⟨b, rfl⟩
  | none => rw [best_none h j hj] at hh; cases hh
/-- The root port, if there is one: its way is the best, and no port whose way is as good comes ahead. -/
theorem root_least {b : Nat} (h : s.root = some b) {j : Nat} (hj : j < s.infos.length) (hh : (s.info j).has = true) : (s.way j).bet (s.way b) = false ∧ (s.way j = s.way b → b ≤ j) := by
  obtain ⟨h1, h2⟩ := best_least (root_best h).1 j hj hh
  refine ⟨h1, fun e => ?_⟩
  by_cases hlt : j < b
  · have := h2 hlt
    rw [e, bet_iff] at this
    omega
  · omega
/-- Whoever has a root that is less makes a root port. -/
theorem root_some {j : Nat} (hj : j < s.infos.length) (hh : (s.info j).has = true) (hr : (s.info j).v.r < s.id) : ∃ b, s.root = some b ∧ (s.way b).r ≤ (s.info j).v.r := by
  obtain ⟨b, hb⟩ := best_some hj hh
  have h1 := (best_least hb j hj hh).1
  rw [bet_no] at h1
  have e : (s.way j).r = (s.info j).v.r := rfl
  refine ⟨b, ?_, by omega⟩
  unfold S.root
  rw [hb]
  simp only
  rw [if_pos (by omega)]
theorem root_none_id (h : s.root = none) {j : Nat} (hj : j < s.infos.length) (hh : (s.info j).has = true) : s.id ≤ (s.info j).v.r := by
  by_cases hlt : (s.info j).v.r < s.id
  · obtain ⟨b, hb, _⟩ := root_some hj hh hlt
    rw [h] at hb; cases hb
  · omega
theorem tells_none (h : s.root = none) (p : Int) : s.tells p = ⟨s.id, 0, s.id, p⟩ := by unfold S.tells; rw [h]
theorem tells_some {b : Nat} (h : s.root = some b) (p : Int) : s.tells p = ⟨(s.info b).v.r, (s.way b).c, s.id, p⟩ := by unfold S.tells; rw [h]; rfl
/-- The root is the least of all, its own ID with them. -/
theorem tells_least (p : Int) : (s.tells p).r ≤ s.id ∧ (∀ j, j < s.infos.length → (s.info j).has = true → (s.tells p).r ≤ (s.info j).v.r) ∧ (s.root = none → (s.tells p).r = s.id) ∧ (∀ b, s.root = some b → (s.tells p).r = (s.info b).v.r ∧ (s.tells p).r < s.id) := by
  cases h : s.root with
  | none =>
    rw [tells_none h]
    exact ⟨Int.le_refl _, fun j hj hh => root_none_id h hj hh, fun _ => rfl, fun b e => by cases e⟩
  | some b =>
    rw [tells_some h]
    have h2 := (root_best h).2
    have e : (s.way b).r = (s.info b).v.r := rfl
    refine ⟨by simp only; omega, fun j hj hh => ?_, fun e => ?_, fun b' e' => ?_⟩
    · have := (root_least h hj hh).1
      rw [bet_no] at this
      have e1 : (s.way j).r = (s.info j).v.r := rfl
      simp only
      omega
    · exact absurd e (by simp)
    · obtain rfl := Option.some.inj e'
      exact ⟨rfl, by simp only; omega⟩
theorem role_zero (hok : s.ok = true) {p : Nat} (hp : p < s.costs.length) : s.role p = 0 ↔ s.root = some p := by
  unfold S.role
  obtain ⟨_, h1, _⟩ := ok_info hok hp
  by_cases hu : s.up p = false
  · rw [if_pos hu]
    refine ⟨fun e => absurd e (by decide), fun e => ?_⟩
    have := (h1 (root_lt e).2).1
    rw [hu] at this; cases this
  · rw [if_neg hu]
    by_cases hr : s.root = some p
    · rw [if_pos hr]; exact ⟨fun _ => hr, fun _ => rfl⟩
    · rw [if_neg hr]
      refine ⟨fun e => ?_, fun e => absurd e hr⟩
      split at e <;> exact absurd e (by decide)
/-- What is told is as good as what was told there, at least. -/
theorem told_good {p : Nat} (h : s.role p = 1) (hh : (s.info p).has = true) : (s.info p).v.bet (s.tells p) = false := by
  unfold S.role at h
  by_cases hu : s.up p = false
  · rw [if_pos hu] at h; cases h
  · rw [if_neg hu] at h
    by_cases hr : s.root = some p
    · rw [if_pos hr] at h; cases h
    · rw [if_neg hr] at h
      cases hb : (s.info p).v.bet (s.tells p) with
      | false => rfl
      | true => rw [if_pos (by rw [hh, hb]; rfl)] at h; cases h
theorem told_up {p : Nat} (h : s.role p = 1) : s.up p = true ∧ s.root ≠ some p := by
  unfold S.role at h
  by_cases hu : s.up p = false
  · rw [if_pos hu] at h; cases h
  · rw [if_neg hu] at h
    refine ⟨by simpa using hu, fun hr => ?_⟩
    rw [if_pos hr] at h; cases h
/-- One port is told something. -/
def S.tellIt (s : S) (p : Nat) (v : V) : S := ⟨s.id, s.costs, s.ups, s.infos.set p ⟨true, v, 0⟩⟩
theorem info_same {p j : Nat} {v : V} (h : j ≠ p) : (s.tellIt p v).info j = s.info j := by
  unfold S.tellIt S.info
  simp only [List.getD_eq_getElem?_getD]
  rw [List.getElem?_set_ne (Ne.symm h)]
theorem info_new {p : Nat} {v : V} (h : p < s.infos.length) : (s.tellIt p v).info p = ⟨true, v, 0⟩ := by
  unfold S.tellIt S.info
  simp only [List.getD_eq_getElem?_getD]
  rw [List.getElem?_set_self h]; rfl
theorem way_same {p j : Nat} {v : V} (h : j ≠ p) : (s.tellIt p v).way j = s.way j := by
  unfold S.way; rw [info_same h]; rfl
/-- The root and the cost are no worse, if one port is told something better. -/
theorem tell_better {p : Nat} {v : V} (hp : p < s.infos.length) (hb : (s.info p).has = true → v.bet (s.info p).v = true) : (s.tells 0).bet ((s.tellIt p v).tells 0) = false := by
  have hlen : (s.tellIt p v).infos.length = s.infos.length := by unfold S.tellIt; simp
  have hid : (s.tellIt p v).id = s.id := rfl
  cases h : s.root with
  | none =>
    rw [tells_none h]
    cases h' : (s.tellIt p v).root with
    | none => rw [tells_none h', bet_no, hid]; simp only; omega
    | some b =>
      rw [tells_some h', bet_no, hid]
      have := (root_best h').2
      have e : ((s.tellIt p v).way b).r = ((s.tellIt p v).info b).v.r := rfl
      rw [hid] at this
      simp only
      omega
  | some b =>
    have hbl := root_lt h
    have hr := (root_best h).2
    have key : ∃ j, j < (s.tellIt p v).infos.length ∧ ((s.tellIt p v).info j).has = true ∧ (((s.tellIt p v).way j).r < (s.way b).r ∨ ((s.tellIt p v).way j).r = (s.way b).r ∧ ((s.tellIt p v).way j).c ≤ (s.way b).c) := by
      by_cases hbp : b = p
      · subst hbp
        refine ⟨b, by rw [hlen]; exact hp, by rw [info_new hp], ?_⟩
        have h1 := bet_iff.1 (hb hbl.2)
        have e1 : (s.tellIt b v).way b = farV v (s.cost b) := by unfold S.way; rw [info_new hp]; rfl
        have e2 : s.way b = farV (s.info b).v (s.cost b) := rfl
        rw [e1, e2]
        unfold farV
        simp only
        omega
      · exact ⟨b, by rw [hlen]; exact hbl.1, by rw [info_same hbp]; exact hbl.2, by rw [way_same hbp]; omega⟩
    obtain ⟨j, hj, hjh, hle⟩ := key
    have ew : ∀ i, ((s.tellIt p v).way i).r = ((s.tellIt p v).info i).v.r := fun _ => rfl
    obtain ⟨b', hb', _⟩ := root_some (s := s.tellIt p v) hj hjh (by rw [hid, ← ew j]; omega)
    have hbest := (root_least hb' hj hjh).1
    rw [bet_no] at hbest
    rw [tells_some h, tells_some hb', bet_no, hid]
    have e3 : (s.way b).r = (s.info b).v.r := rfl
    have e4 := ew b'
    simp only
    omega
end
end Go.Proofs.Ytidoaccidmmalaa.RoleP
