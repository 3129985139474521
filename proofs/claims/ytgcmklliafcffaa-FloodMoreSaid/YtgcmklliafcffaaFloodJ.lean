/-
  FloodMore, plain: with more ports open no step is longer; with all of them the plan is the old one.
-/
import Derived.Test.YtgcmklliafcffaaFloodG
namespace Go.Proofs.Ytgcmklliafcffaa.LanP
set_option linter.unusedVariables false
set_option maxRecDepth 100000
theorem rng_getD {α : Type} (f : Nat → α) (d : α) {n i : Nat} (h : i < n) : ((List.range n).map f).getD i d = f i := by
  rw [List.getD_eq_getElem?_getD, List.getElem?_map, List.getElem?_range h]; rfl
theorem dst_more {l k : L} (hl : l.fit) (hk : k.fit) (hs : l.segs = k.segs) (hlk : ∀ s t, lnk l s t = true → lnk k s t = true) {f : Int} {g h : Int → Int} (G : Dst l f g) (H : Dst k f h) : ∀ (m : Nat) (t : Int), 0 ≤ t → t < l.segs → g t = m → 0 ≤ h t ∧ h t ≤ g t
  | 0, t, t0, t1, hm => by
    have := G.only t t0 t1 hm
    subst this
    have := H.zero
    omega
  | m + 1, t, t0, t1, hm => by
    obtain ⟨s, h1, h2⟩ := G.back t t0 t1 (by omega)
    have hs9 := (lnk_in hl h1).1
    have ih := dst_more hl hk hs hlk G H m s hs9.1 hs9.2 (by omega)
    have := H.step s t (hlk s t h1) ih.1
    omega
def moreR (b k : Int) (i : Nat) (y : List Bool) (j : Nat) : List Bool := (List.range j).map fun q => y.getD q false || (decide ((i : Int) = b) && decide ((q : Int) = k))
def moreO (b k : Int) (o : List (List Bool)) (n : Nat) : List (List Bool) := (List.range n).map fun i => moreR b k i (o.getD i []) (o.getD i []).length
def allR (j : Nat) : List Bool := (List.range j).map fun _ => true
def allO (m : L) (n : Nat) : List (List Bool) := (List.range n).map fun i => allR (pl m i).ports.length
theorem moreR_succ (b k : Int) (i : Nat) (y : List Bool) (j : Nat) : moreR b k i y (j + 1) = moreR b k i y j ++ [y.getD j false || (decide ((i : Int) = b) && decide ((j : Int) = k))] := by unfold moreR; rw [List.range_succ, List.map_append]; rfl
theorem moreR_len (b k : Int) (i : Nat) (y : List Bool) (j : Nat) : (moreR b k i y j).length = j := by unfold moreR; simp
theorem moreO_succ (b k : Int) (o : List (List Bool)) (n : Nat) : moreO b k o (n + 1) = moreO b k o n ++ [moreR b k n (o.getD n []) (o.getD n []).length] := by unfold moreO; rw [List.range_succ, List.map_append]; rfl
theorem moreO_len (b k : Int) (o : List (List Bool)) (n : Nat) : (moreO b k o n).length = n := by unfold moreO; simp
theorem allR_succ (j : Nat) : allR (j + 1) = allR j ++ [true] := by unfold allR; rw [List.range_succ, List.map_append]; rfl
theorem allR_len (j : Nat) : (allR j).length = j := by unfold allR; simp
theorem allO_succ (m : L) (n : Nat) : allO m (n + 1) = allO m n ++ [allR (pl m n).ports.length] := by unfold allO; rw [List.range_succ, List.map_append]; rfl
theorem allO_len (m : L) (n : Nat) : (allO m n).length = n := by unfold allO; simp
theorem allR_at {n j : Nat} (h : j < n) : (allR n).getD j false = true := rng_getD _ _ h
theorem opP_all (p : P) : opP p (allR p.ports.length) = p := by
  unfold opP
  have : opTo p (allR p.ports.length) p.ports.length = p.ports := by
    apply List.ext_getElem?
    intro i
    unfold opTo
    rw [List.getElem?_map]
    by_cases h : i < p.ports.length
    · rw [List.getElem?_range h]
      show some (opX p (allR p.ports.length) i) = _
      unfold opX
      rw [allR_at h, Bool.and_true, List.getElem?_eq_getElem h, List.getD_eq_getElem?_getD, List.getElem?_eq_getElem h]
      rfl
    · rw [List.getElem?_eq_none (by simp; omega), List.getElem?_eq_none (by omega)]; rfl
  rw [this]
theorem op_all (m : L) : (m.op (allO m m.plans.length)).plans = m.plans := by
  apply List.ext_getElem?
  intro i
  by_cases h : i < m.plans.length
  · rw [op_get h]
    rw [show (allO m m.plans.length).getD i [] = allR (pl m i).ports.length from rng_getD _ _ h, opP_all]
    exact (plan_get h).symm
  · rw [List.getElem?_eq_none (by rw [op_len]; omega), List.getElem?_eq_none (by omega)]
theorem part_all (m : L) (s : Int) : (m.op (allO m m.plans.length)).part s = m.part s := by
  unfold L.part L.pairs L.n
  rw [op_all]; rfl
theorem rowsB_all (m : L) : rowsB m (allO m m.plans.length) = true := by
  unfold rowsB rowsTo
  rw [allO_len, decide_eq_true rfl, Bool.true_and, List.all_eq_true]
  intro i hi
  have hi := List.mem_range.1 hi
  rw [show (allO m m.plans.length).getD i [] = allR (pl m i).ports.length from rng_getD _ _ hi, allR_len]
  exact decide_eq_true rfl
theorem rowsB_more {m : L} {o : List (List Bool)} (h : rowsB m o = true) (b k : Int) : rowsB m (moreO b k o m.plans.length) = true := by
  unfold rowsB rowsTo at *
  rw [moreO_len, decide_eq_true rfl, Bool.true_and, List.all_eq_true]
  simp only [Bool.and_eq_true, List.all_eq_true] at h
  intro i hi
  have h2 := h.2 i hi
  have hi := List.mem_range.1 hi
  rw [show (moreO b k o m.plans.length).getD i [] = moreR b k i (o.getD i []) (o.getD i []).length from rng_getD _ _ hi, moreR_len]
  exact h2
theorem ups_more {p : P} {r q : List Bool} (h : ∀ k, k < p.ports.length → r.getD k false = true → q.getD k false = true) {s : Int} (hs : s ∈ ups (opP p r)) : s ∈ ups (opP p q) := by
  obtain ⟨x, hx, h1, rfl⟩ := mem_ups.1 hs
  obtain ⟨k, hk, rfl⟩ := mem_opX.1 hx
  refine mem_ups.2 ⟨opX p q k, mem_opX.2 ⟨k, hk, rfl⟩, ?_, rfl⟩
  unfold opX at h1 ⊢
  simp only [Bool.and_eq_true] at h1 ⊢
  exact ⟨h1.1, h k hk h1.2⟩
theorem more_at {m : L} {o : List (List Bool)} (h : rowsB m o = true) (b k : Int) {i j : Nat} (hi : i < m.plans.length) (hj : j < (pl m i).ports.length) (hv : (o.getD i []).getD j false = true) : ((moreO b k o m.plans.length).getD i []).getD j false = true := by
  unfold rowsB rowsTo at h
  simp only [Bool.and_eq_true, List.all_eq_true] at h
  have h2 := of_decide_eq_true (h.2 i (List.mem_range.2 hi))
  rw [show (moreO b k o m.plans.length).getD i [] = moreR b k i (o.getD i []) (o.getD i []).length from rng_getD _ _ hi]
  unfold moreR
  rw [rng_getD _ _ (by omega), hv, Bool.true_or]
theorem lnk_more {m : L} {o : List (List Bool)} (h : rowsB m o = true) (b k : Int) {s t : Int} (hl : lnk (m.op o) s t = true) : lnk (m.op (moreO b k o m.plans.length)) s t = true := by
  obtain ⟨p, hp, h1, h2⟩ := lnk_iff.1 hl
  obtain ⟨i, hi, rfl⟩ := mem_op.1 hp
  exact lnk_iff.2 ⟨_, mem_op.2 ⟨i, hi, rfl⟩, ups_more (fun j hj hv => more_at h b k hi hj hv) h1, ups_more (fun j hj hv => more_at h b k hi hj hv) h2⟩
theorem more_dst {m : L} {o : List (List Bool)} (ok : m.ok = true) (h : rowsB m o = true) (b k : Int) {f t : Int} (f0 : 0 ≤ f) (f1 : f < m.segs) (t0 : 0 ≤ t) (t1 : t < m.segs) (hd : 0 ≤ (m.op o).dst f t) : 0 ≤ (m.op (moreO b k o m.plans.length)).dst f t ∧ (m.op (moreO b k o m.plans.length)).dst f t ≤ (m.op o).dst f t := by
  have a1 := op_fit (ok_fit ok) o
  have a2 := op_fit (ok_fit ok) (moreO b k o m.plans.length)
  exact dst_more a1 a2 rfl (fun s t => lnk_more h b k) (dst_is a1 f0 f1) (dst_is a2 f0 f1) ((m.op o).dst f t).toNat t t0 t1 (by omega)
/- Two rows that grow one behind the other. -/
open Go.RowKit Go.Sort Go.Proofs.Ytgcmklliafcffaa.SliceP Go.Proofs.Ytgcmklliafcffaa.BoxP in
theorem two_rows {w w' : World} {B : Nat} {e : TypeId} {sz : Nat} {v u v' : Value} {xs ys xs' : List (List Value)} (hv : Own w B e sz v xs) (hu : Own w B e sz u ys) (hd : ∀ q, v.ownBlock = some q → u.ownBlock ≠ some q) (hv' : Own w' B e sz v' xs') (hg : w.grownBy w' v.ownBlock) (hn : v'.ownBlock = v.ownBlock ∨ v'.ownBlock = some w.heap.size) : Own w' B e sz u ys ∧ (∀ q, u.ownBlock = some q → v'.ownBlock ≠ some q) := by
  refine ⟨hu.kept hg ?_, fun q hq hq2 => ?_⟩
  · cases hub : u.ownBlock with
    | none => exact .inl rfl
    | some q => exact .inr (fun h => hd q h.symm hub)
  · rcases hn with hn | hn
    · exact hd q (hn.symm.trans hq2) hq
    · have := (hu.lt q hq).2
      rw [hn] at hq2
      have := Option.some.inj hq2
      omega
theorem allO_row {m : L} (hs : Small m) {n : Nat} {r : List Bool} (hn : n ≤ m.plans.length) (h : r ∈ allO m n) : r.length ≤ 1000 := by
  obtain ⟨i, hi, rfl⟩ := List.mem_map.1 h
  have hi := List.mem_range.1 hi
  rw [allR_len]
  have := hs.ports _ (pl_mem (l := m) (b := i) (by omega))
  omega
theorem moreO_row {m : L} {o : List (List Bool)} (b k : Int) {n : Nat} {r : List Bool} (ho : ∀ r ∈ o, r.length ≤ 1000) (h : r ∈ moreO b k o n) : r.length ≤ 1000 := by
  obtain ⟨i, hi, rfl⟩ := List.mem_map.1 h
  rw [moreR_len]
  by_cases h9 : i < o.length
  · rw [List.getD_eq_getElem?_getD, List.getElem?_eq_getElem h9]; exact ho _ (List.getElem_mem h9)
  · rw [List.getD_eq_getElem?_getD, List.getElem?_eq_none (by omega)]; simp
open Go.RowKit Go.Sort Go.Proofs.Ytgcmklliafcffaa.SliceP Go.Proofs.Ytgcmklliafcffaa.BoxP in
theorem keep_row {w w' : World} {B B' : Nat} {u v : Value} {xs ys : List (List Value)} (hx : Own w B 4 1 u xs) (hv : Own w B' 44 1 v ys) (hg : w.grownBy w' v.ownBlock) : Own w' B 4 1 u xs := hx.kept hg (by
  cases hob : u.ownBlock with
  | none => exact .inl rfl
  | some q => exact .inr (fun e => own_ne hx hv (by decide) q hob e.symm))
end Go.Proofs.Ytgcmklliafcffaa.LanP
