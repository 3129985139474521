/- Layer 16 (tree), plain: what a right plan keeps (Fine, costs); ports on a segment as pairs of numbers. -/
import Derived.Test.YtplgaenfcaphnaaTreeA
import Derived.Test.YtplgaenfcaphnaaLanF
import Derived.Test.YtplgaenfcaphnaaTreeR
namespace Go.Proofs.Ytplgaenfcaphnaa.LanP
set_option linter.unusedVariables false
set_option maxRecDepth 100000
theorem pl_mem {l : L} {b : Nat} (h : b < l.plans.length) : pl l b ∈ l.plans := by unfold pl; rw [List.getD_eq_getElem?_getD, List.getElem?_eq_getElem h]; exact List.getElem_mem h
theorem pl_none {l : L} {b : Nat} (h : ¬ b < l.plans.length) : (pl l b).ports = [] := by unfold pl; rw [List.getD_eq_getElem?_getD, List.getElem?_eq_none (by omega)]; rfl
theorem ok_lk {l : L} (h : l.ok = true) : ∀ p ∈ l.plans, ∀ x ∈ p.ports, 0 ≤ x.seg ∧ x.seg < l.segs ∧ 1 ≤ x.cost ∧ x.cost ≤ 1000 := fun p hp x hx => by
  have := (ok_plans h).2 p hp
  unfold P.ok at this
  simp only [Bool.and_eq_true, List.all_eq_true] at this
  have := this.2.2 x hx
  unfold lkB at this
  simp only [Bool.and_eq_true, decide_eq_true_eq] at this
  exact ⟨this.1.1, this.1.2, this.2.1, this.2.2⟩
theorem ok_id {l : L} (h : l.ok = true) : ∀ p ∈ l.plans, 0 ≤ p.id ∧ p.id ≤ 65535 := fun p hp => by
  have := (ok_plans h).2 p hp
  unfold P.ok at this
  simp only [Bool.and_eq_true, decide_eq_true_eq] at this
  exact ⟨this.1.1, this.1.2⟩
theorem twins_inj {l : List Int} (h : twins l = false) : ∀ (a b : Nat), a < b → b < l.length → l.getD a 0 ≠ l.getD b 0 := fun a b hab hb e => by
  unfold twins at h
  rw [List.any_eq_false] at h
  have := h b (List.mem_range.2 hb)
  unfold twin at this
  apply this
  rw [List.any_eq_true]
  refine ⟨l.getD a 0, ?_, by simpa using e⟩
  rw [List.getD_eq_getElem?_getD, List.getElem?_eq_getElem (by omega), Option.getD_some]
  exact List.mem_take_iff_getElem.2 ⟨a, by omega, rfl⟩
theorem ok_fine {l : L} (h : l.ok = true) : Fine l := by
  refine ⟨fun b k c hE => ?_, fun a b ha hb e => ?_⟩
  · obtain ⟨_, _, x, hx, _, _, rfl⟩ := hE
    by_cases hb : b < l.plans.length
    · have := ok_lk h _ (pl_mem hb) x hx; omega
    · rw [pl_none hb] at hx; cases hx
  · have ht := (ok_iff.1 h).2.2.2.2.1
    have key : ∀ k, k < l.plans.length → l.ids.getD k 0 = (pl l k).id := fun k hk => by
      unfold L.ids pl
      rw [List.getD_eq_getElem?_getD, List.getD_eq_getElem?_getD, List.getElem?_map, List.getElem?_eq_getElem hk]; rfl
    have hlen : l.ids.length = l.plans.length := by unfold L.ids; rw [List.length_map]
    rcases Nat.lt_trichotomy a b with q | q | q
    · exact absurd (by rw [key a ha, key b hb, e]) (twins_inj ht a b q (by rw [hlen]; exact hb))
    · exact q
    · exact absurd (by rw [key a ha, key b hb, e]) (twins_inj ht b a q (by rw [hlen]; exact ha))
def nz (q : Nat × Nat) : Int × Int := ((q.1 : Int), (q.2 : Int))
theorem ports_onS (l : L) (s : Int) : portsOf l.plans s = (onS l s).map nz := by
  unfold portsOf onS
  rw [List.map_flatMap]
  have key : ∀ b ∈ List.range l.plans.length, portsRow l.plans s b = (((List.range (pl l b).ports.length).filter fun k => (prt l b k).up && (prt l b k).seg == s).map fun k => (b, k)).map nz := fun b hb => by
    have hb := List.mem_range.1 hb
    have e : portsRow l.plans s b = portsTo (pl l b) s b (pl l b).ports.length := by
      unfold portsRow
      have : l.plans[b]? = some (pl l b) := by unfold pl; rw [List.getD_eq_getElem?_getD, List.getElem?_eq_getElem hb]; rfl
      rw [this]
    rw [e]
    unfold portsTo
    have key2 : ∀ m, m ≤ (pl l b).ports.length → (List.range m).flatMap (portAt (pl l b) s b) = (((List.range m).filter fun k => (prt l b k).up && (prt l b k).seg == s).map fun k => (b, k)).map nz := by
      intro m
      induction m with
      | zero => intro _; rfl
      | succ m ih =>
        intro hm
        rw [flat_succ, ih (by omega), List.range_succ, List.filter_append, List.map_append, List.map_append]
        congr 1
        unfold portAt
        have : (pl l b).ports[m]? = some (prt l b m) := by unfold prt; rw [List.getD_eq_getElem?_getD, List.getElem?_eq_getElem (by omega)]; rfl
        rw [this]
        simp only [List.filter_cons, List.filter_nil]
        split <;> rfl
    exact key2 _ (Nat.le_refl _)
  generalize List.range l.plans.length = R at key
  induction R with
  | nil => rfl
  | cons a r ih => rw [List.flatMap_cons, List.flatMap_cons, key a (by simp), ih (fun b hb => key b (List.mem_cons_of_mem _ hb))]
theorem onS_len {l : L} (hs : l.plans.length ≤ 8) (hp : ∀ p ∈ l.plans, p.ports.length ≤ 10) (s : Int) : (onS l s).length ≤ 80 := by
  unfold onS
  have := fm_len (fun b => ((List.range (pl l b).ports.length).filter fun k => (prt l b k).up && (prt l b k).seg == s).map fun k => (b, k)) 10 (List.range l.plans.length) (fun b hb => by
    rw [List.length_map]
    have h1 := List.length_filter_le (fun k => (prt l b k).up && (prt l b k).seg == s) (List.range (pl l b).ports.length)
    have h2 := hp _ (pl_mem (List.mem_range.1 hb))
    rw [List.length_range] at h1
    omega)
  rw [List.length_range] at this
  omega
theorem ahead_len {l : L} (hs : l.plans.length ≤ 8) (hp : ∀ p ∈ l.plans, p.ports.length ≤ 10) (b : Nat) (k : Bst) (m : Nat) : (((pl l b).ports.take m).flatMap (aheadP l k)).length ≤ 800 := by
  have := fm_len (aheadP l k) 80 ((pl l b).ports.take m) (fun x _ => by
    unfold aheadP
    split
    · rw [List.length_map]; exact onS_len hs hp _
    · simp)
  have h2 : ((pl l b).ports.take m).length ≤ 10 := by
    rw [List.length_take]
    by_cases hb : b < l.plans.length
    · have := hp _ (pl_mem hb); omega
    · rw [pl_none hb]; simp
  omega
theorem best_bd {l : L} (h : l.ok = true) {b : Nat} (hb : b < l.plans.length) : 0 ≤ (l.best b).2 ∧ (l.best b).2 ≤ 8000 := by
  have := bests_bd (l := l) (fun p hp x hx => by have := ok_lk h p hp x hx; omega) l.plans.length ((bests l l.plans.length).getD b (0, 0)) (by
    rw [List.getD_eq_getElem?_getD, List.getElem?_eq_getElem (by rw [bests_len]; exact hb)]
    exact List.getElem_mem _)
  have h6 := (ok_plans h).1
  have hz : ((l.plans.length : Nat) : Int) * 1000 ≤ 6000 := by omega
  unfold L.best bB
  omega
end Go.Proofs.Ytplgaenfcaphnaa.LanP
