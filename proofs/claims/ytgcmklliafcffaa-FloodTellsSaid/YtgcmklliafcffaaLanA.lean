/-
  Plans, plainly: which segments are in one part (the least one of each), how many parts and loops, a port that goes down, the reference's way.
-/
import Derived.Test.YtgcmklliafcffaaMacR
namespace Go.Proofs.Ytgcmklliafcffaa.LanP
set_option linter.unusedVariables false
set_option maxRecDepth 100000
/- Which segments are in one part: the least one of each. -/
def mrg (f : Int → Int) (a b : Int) (s : Int) : Int := if f s = f a ∨ f s = f b then min (f a) (f b) else f s
def lab : List (Int × Int) → Int → Int
  | [], s => s
  | e :: E, s => mrg (lab E) e.1 e.2 s
theorem mrg_cases (f : Int → Int) (a b s : Int) : (mrg f a b s = min (f a) (f b) ∧ (f s = f a ∨ f s = f b)) ∨ (mrg f a b s = f s ∧ f s ≠ f a ∧ f s ≠ f b) := by
  unfold mrg
  split
  · rename_i h; exact .inl ⟨rfl, h⟩
  · rename_i h; exact .inr ⟨rfl, fun e => h (.inl e), fun e => h (.inr e)⟩
theorem min_is (a b : Int) : (min a b = a ∧ a ≤ b) ∨ (min a b = b ∧ b ≤ a) := by omega
theorem lab_le : ∀ (E : List (Int × Int)) (s : Int), lab E s ≤ s
  | [], s => Int.le_refl s
  | e :: E, s => by
    have h1 := lab_le E s
    show mrg (lab E) e.1 e.2 s ≤ s
    rcases mrg_cases (lab E) e.1 e.2 s with ⟨h, h2⟩ | ⟨h, _⟩
    · rw [h]; rcases h2 with h2 | h2 <;> omega
    · rw [h]; exact h1
theorem lab_nonneg : ∀ (E : List (Int × Int)) (s : Int), (∀ e ∈ E, 0 ≤ e.1 ∧ 0 ≤ e.2) → 0 ≤ s → 0 ≤ lab E s
  | [], s, _, h => h
  | e :: E, s, hE, hs => by
    have ih := fun t => lab_nonneg E t (fun x hx => hE x (List.mem_cons_of_mem _ hx))
    have h0 := hE e (by simp)
    have h1 := ih _ h0.1
    have h2 := ih _ h0.2
    show 0 ≤ mrg (lab E) e.1 e.2 s
    rcases mrg_cases (lab E) e.1 e.2 s with ⟨h, h2⟩ | ⟨h, _⟩
    · rw [h]; omega
    · rw [h]; exact ih _ hs
theorem lab_idem : ∀ (E : List (Int × Int)) (s : Int), lab E (lab E s) = lab E s
  | [], s => rfl
  | e :: E, s => by
    have ih := lab_idem E
    have key : mrg (lab E) e.1 e.2 (mrg (lab E) e.1 e.2 s) = mrg (lab E) e.1 e.2 s := by
      rcases mrg_cases (lab E) e.1 e.2 s with ⟨h, h2⟩ | ⟨h, h2, h3⟩
      · rw [h]
        unfold mrg
        rcases min_is (lab E e.1) (lab E e.2) with ⟨h4, _⟩ | ⟨h4, _⟩
        · rw [h4, ih, if_pos (.inl rfl)]
        · rw [h4, ih, if_pos (.inr rfl)]
      · rw [h]
        unfold mrg
        rw [ih, if_neg (by rintro (h | h) <;> contradiction)]
    exact key
theorem lab_cong {E : List (Int × Int)} {e : Int × Int} {s t : Int} (h : lab E s = lab E t) : lab (e :: E) s = lab (e :: E) t := by
  show mrg _ _ _ _ = mrg _ _ _ _
  unfold mrg; rw [h]
theorem lab_join : ∀ (E : List (Int × Int)) (e : Int × Int), e ∈ E → lab E e.1 = lab E e.2
  | [], e, h => by cases h
  | d :: E, e, h => by
    rcases List.mem_cons.1 h with rfl | h
    · show mrg _ _ _ _ = mrg _ _ _ _
      unfold mrg
      rw [if_pos (.inl rfl), if_pos (.inr rfl)]
    · exact lab_cong (lab_join E e h)
theorem lab_univ {α : Type} (g : Int → α) : ∀ (E : List (Int × Int)), (∀ e ∈ E, g e.1 = g e.2) → ∀ s, g (lab E s) = g s
  | [], _, s => rfl
  | e :: E, h, s => by
    have ih := lab_univ g E (fun x hx => h x (List.mem_cons_of_mem _ hx))
    have h0 := h e (by simp)
    show g (mrg _ _ _ _) = g s
    have hm : g (min (lab E e.1) (lab E e.2)) = g e.1 := by
      rcases min_is (lab E e.1) (lab E e.2) with ⟨h4, _⟩ | ⟨h4, _⟩
      · rw [h4, ih]
      · rw [h4, ih, h0]
    rcases mrg_cases (lab E) e.1 e.2 s with ⟨k, h2⟩ | ⟨k, h2, h3⟩
    · rw [k, hm]
      rcases h2 with h2 | h2
      · rw [← ih s, h2, ih]
      · rw [← ih s, h2, ih, h0]
    · rw [k, ih]
theorem lab_ext {E F : List (Int × Int)} (h1 : ∀ e ∈ E, lab F e.1 = lab F e.2) (h2 : ∀ e ∈ F, lab E e.1 = lab E e.2) (s : Int) : lab E s = lab F s := by
  have a := lab_univ (lab F) E h1 s
  have b := lab_univ (lab E) F h2 s
  have c := lab_le F (lab E s)
  have d := lab_le E (lab F s)
  omega
/-- How many. -/
def cnt (p : Int → Bool) : Nat → Nat
  | 0 => 0
  | n + 1 => cnt p n + if p (n : Int) = true then 1 else 0
theorem cnt_le (p : Int → Bool) : ∀ n, cnt p n ≤ n
  | 0 => Nat.le_refl _
  | n + 1 => by unfold cnt; have := cnt_le p n; split <;> omega
theorem cnt_congr {p q : Int → Bool} : ∀ {n : Nat}, (∀ s : Nat, s < n → p (s : Int) = q (s : Int)) → cnt p n = cnt q n
  | 0, _ => rfl
  | n + 1, h => by unfold cnt; rw [cnt_congr (n := n) (fun s hs => h s (by omega)), h n (by omega)]
theorem cnt_less {p : Int → Bool} {x : Int} : ∀ {n : Nat}, cnt (fun s => p s && (s != x)) n + (if 0 ≤ x ∧ x < n ∧ p x = true then 1 else 0) = cnt p n
  | 0 => by unfold cnt; rw [if_neg (by omega)]
  | n + 1 => by
    have ih := cnt_less (p := p) (x := x) (n := n)
    unfold cnt
    by_cases hx : (n : Int) = x
    · subst hx
      rw [if_neg (by omega)] at ih
      have e0 : (p (n : Int) && ((n : Int) != (n : Int))) = false := by simp
      rw [e0]
      cases hp : p (n : Int)
      · rw [if_neg (by rintro ⟨_, _, h⟩)]; simpa using ih
      · rw [if_pos (show 0 ≤ (n : Int) ∧ (n : Int) < ((n + 1 : Nat) : Int) ∧ true = true from ⟨by omega, by omega, rfl⟩)]; simpa using ih
    · have hne : ((n : Int) != x) = true := by simpa using hx
      rw [hne, Bool.and_true]
      have he : (if 0 ≤ x ∧ x < ((n + 1 : Nat) : Int) ∧ p x = true then 1 else 0) = (if 0 ≤ x ∧ x < (n : Int) ∧ p x = true then 1 else 0) := by
        by_cases hq : 0 ≤ x ∧ x < (n : Int) ∧ p x = true
        · rw [if_pos hq, if_pos ⟨hq.1, by omega, hq.2.2⟩]
        · rw [if_neg hq, if_neg (fun h => hq ⟨h.1, by omega, h.2.2⟩)]
      rw [he]
      omega
def partsN (E : List (Int × Int)) (n : Nat) : Nat := cnt (fun s => decide (lab E s = s)) n
theorem parts_congr {E F : List (Int × Int)} {n : Nat} (h : ∀ s, lab E s = lab F s) : partsN E n = partsN F n := by unfold partsN; exact cnt_congr fun s _ => by rw [h]
theorem parts_le (E : List (Int × Int)) (n : Nat) : partsN E n ≤ n := cnt_le _ _
/-- One more pair: the same, or one less. -/
theorem parts_cons (e : Int × Int) (E : List (Int × Int)) (n : Nat) (hE : ∀ x ∈ e :: E, 0 ≤ x.1 ∧ 0 ≤ x.2) (h1 : e.1 < n) (h2 : e.2 < n) : partsN (e :: E) n = partsN E n ∨ partsN (e :: E) n + 1 = partsN E n := by
  by_cases h : lab E e.1 = lab E e.2
  · left
    refine parts_congr fun s => ?_
    show mrg _ _ _ _ = _
    rcases mrg_cases (lab E) e.1 e.2 s with ⟨k, h3⟩ | ⟨k, _⟩
    · rw [k, ← h]; rcases h3 with h3 | h3 <;> omega
    · exact k
  · right
    obtain ⟨M, hM⟩ : ∃ M, max (lab E e.1) (lab E e.2) = M := ⟨_, rfl⟩
    have hE' : ∀ x ∈ E, 0 ≤ x.1 ∧ 0 ≤ x.2 := fun x hx => hE x (List.mem_cons_of_mem _ hx)
    have n1 := lab_nonneg E e.1 hE' (hE e (by simp)).1
    have n2 := lab_nonneg E e.2 hE' (hE e (by simp)).2
    have l1 := lab_le E e.1
    have l2 := lab_le E e.2
    have i1 := lab_idem E e.1
    have i2 := lab_idem E e.2
    have hfix : lab E M = M := by
      rcases (show M = lab E e.1 ∨ M = lab E e.2 by omega) with h | h <;> rw [h] <;> assumption
    have := cnt_less (p := fun s => decide (lab E s = s)) (x := M) (n := n)
    rw [if_pos ⟨by omega, by omega, by simpa using hfix⟩] at this
    unfold partsN
    rw [← this]
    congr 1
    refine cnt_congr fun s _ => ?_
    have is := lab_idem E (s : Int)
    rw [Bool.eq_iff_iff]
    simp only [decide_eq_true_eq, Bool.and_eq_true, bne_iff_ne]
    show mrg _ _ _ _ = _ ↔ _
    rcases mrg_cases (lab E) e.1 e.2 s with ⟨k, h3⟩ | ⟨k, h3, h4⟩
    · rw [k]
      constructor
      · intro hs
        rcases min_is (lab E e.1) (lab E e.2) with ⟨h4, _⟩ | ⟨h4, _⟩
        · rw [h4] at hs; rw [← hs]; exact ⟨i1, by omega⟩
        · rw [h4] at hs; rw [← hs]; exact ⟨i2, by omega⟩
      · rintro ⟨h5, h6⟩; rcases h3 with h3 | h3 <;> omega
    · rw [k]
      exact ⟨fun h5 => ⟨h5, fun h6 => by
        rw [h6] at h5 h3 h4
        rcases (show M = lab E e.1 ∨ M = lab E e.2 by omega) with h | h <;> omega⟩, fun h5 => h5.1⟩
theorem parts_nil (n : Nat) : partsN [] n = n := by
  induction n with
  | zero => rfl
  | succ n ih => unfold partsN cnt; unfold partsN at ih; rw [ih]; simp [lab]
theorem parts_ge : ∀ (E : List (Int × Int)) (n : Nat), (∀ x ∈ E, 0 ≤ x.1 ∧ 0 ≤ x.2 ∧ x.1 < n ∧ x.2 < n) → n ≤ E.length + partsN E n
  | [], n, _ => by rw [parts_nil]; simp
  | e :: E, n, h => by
    have ih := parts_ge E n (fun x hx => h x (List.mem_cons_of_mem _ hx))
    have h0 := h e (by simp)
    have := parts_cons e E n (fun x hx => ⟨(h x hx).1, (h x hx).2.1⟩) h0.2.2.1 h0.2.2.2
    rw [List.length_cons]
    omega
/-- What the program holds, when no pair differs. -/
theorem lab_least {E : List (Int × Int)} {F : Int → Int} {n : Nat} (hE : ∀ x ∈ E, 0 ≤ x.1 ∧ 0 ≤ x.2 ∧ x.1 < n ∧ x.2 < n) (h1 : ∀ s : Int, 0 ≤ s → s < n → 0 ≤ F s ∧ F s ≤ s ∧ lab E (F s) = lab E s) (h2 : ∀ e ∈ E, F e.1 = F e.2) {s : Int} (hs : 0 ≤ s) (hn : s < n) : F s = lab E s := by
  obtain ⟨a, b, c⟩ := h1 s hs hn
  have d := lab_le E (F s)
  have e := lab_univ F E h2 s
  have f := lab_nonneg E s (fun x hx => ⟨(hE x hx).1, (hE x hx).2.1⟩) hs
  have g := lab_le E s
  have := (h1 (lab E s) f (by omega)).2.1
  omega
/- Neighbours of a row. -/
def adj : List Int → List (Int × Int)
  | [] => []
  | [x] => []
  | x :: y :: l => (x, y) :: adj (y :: l)
theorem adj_len : ∀ l : List Int, (adj l).length = l.length - 1
  | [] => rfl
  | [x] => rfl
  | x :: y :: l => by rw [adj, List.length_cons, adj_len]; simp
theorem adj_mem : ∀ {l : List Int} {e : Int × Int}, e ∈ adj l → e.1 ∈ l ∧ e.2 ∈ l
  | [], e, h => by cases h
  | [x], e, h => by cases h
  | x :: y :: l, e, h => by
    rcases List.mem_cons.1 h with rfl | h
    · simp
    · obtain ⟨a, b⟩ := adj_mem h
      exact ⟨List.mem_cons_of_mem _ a, List.mem_cons_of_mem _ b⟩
theorem adj_all {α : Type} (g : Int → α) : ∀ {l : List Int}, (∀ e ∈ adj l, g e.1 = g e.2) → ∀ x ∈ l, ∀ y ∈ l, g x = g y
  | [], h, x, hx, _, _ => by cases hx
  | [z], h, x, hx, y, hy => by
    obtain rfl := List.mem_singleton.1 hx
    obtain rfl := List.mem_singleton.1 hy
    rfl
  | z :: u :: l, h, x, hx, y, hy => by
    have ih := adj_all g (l := u :: l) (fun e he => h e (List.mem_cons_of_mem _ he))
    have h0 : g z = g u := h (z, u) (by simp [adj])
    have key : ∀ x ∈ z :: u :: l, g x = g u := fun x hx => by
      rcases List.mem_cons.1 hx with rfl | hx
      · exact h0
      · exact ih x hx u (by simp)
    rw [key x hx, key y hy]
theorem adj_take : ∀ (l : List Int) (k : Nat) (a b : Int), l[k]? = some a → l[k + 1]? = some b → adj (l.take (k + 2)) = adj (l.take (k + 1)) ++ [(a, b)]
  | [], k, a, b, h, _ => by simp at h
  | [x], k, a, b, h, h2 => by simp at h2
  | x :: y :: l, 0, a, b, h, h2 => by simp at h h2; subst h; subst h2; simp [adj]
  | x :: y :: l, k + 1, a, b, h, h2 => by
    have := adj_take (y :: l) k a b (by simpa using h) (by simpa using h2)
    simp only [List.take_succ_cons, adj] at this ⊢
    rw [this]; rfl

/- Plans. -/
structure Lk where
  seg : Int
  cost : Int
  up : Bool
structure P where
  id : Int
  ports : List Lk
abbrev Hs : Type := Int × Int
structure L where
  segs : Int
  plans : List P
  hosts : List Hs
instance : Inhabited Lk := ⟨⟨0, 0, false⟩⟩
instance : Inhabited P := ⟨⟨0, []⟩⟩
def lkB (n : Int) (x : Lk) : Bool := (decide (0 ≤ x.seg) && decide (x.seg < n)) && (decide (1 ≤ x.cost) && decide (x.cost ≤ 1000))
def P.ok (n : Int) (p : P) : Bool := (decide (0 ≤ p.id) && decide (p.id ≤ 65535)) && ((decide (1 ≤ p.ports.length) && decide (p.ports.length ≤ 8)) && p.ports.all (lkB n))
/-- Is the k-th one ahead of itself? -/
def twin (l : List Int) (k : Nat) : Bool := (l.take k).any fun y => y == l.getD k 0
def twins (l : List Int) : Bool := (List.range l.length).any (twin l)
def hostB (uni : Int → Bool) (n : Int) (h : Hs) : Bool := uni h.1 && (decide (0 ≤ h.2) && decide (h.2 < n))
def L.ids (l : L) : List Int := l.plans.map P.id
def L.macs (l : L) : List Int := l.hosts.map Prod.fst
def L.plansB (l : L) : Bool := decide (l.plans.length ≤ 6) && (!(twins l.ids) && l.plans.all (P.ok l.segs))
def L.hostsB (uni : Int → Bool) (l : L) : Bool := decide (l.hosts.length ≤ 8) && (!(twins l.macs) && l.hosts.all (hostB uni l.segs))
def L.okU (uni : Int → Bool) (l : L) : Bool := (decide (1 ≤ l.segs) && decide (l.segs ≤ 8)) && (l.plansB && l.hostsB uni)
def ups (p : P) : List Int := (p.ports.filter Lk.up).map Lk.seg
def L.n (l : L) : Nat := l.segs.toNat
def L.pairs (l : L) : List (Int × Int) := l.plans.flatMap fun p => adj (ups p)
def L.part (l : L) (s : Int) : List Int := ((List.range l.n).map Int.ofNat).filter fun t => lab l.pairs t == lab l.pairs s
def L.parts (l : L) : Int := (partsN l.pairs l.n : Nat)
def L.upsN (l : L) : Int := ((l.plans.map fun p => ((ups p).length : Int)).sum)
def L.brN (l : L) : Int := ((l.plans.map fun p => (min (ups p).length 1 : Nat) : List Nat).map Int.ofNat).sum
def L.loops (l : L) : Int := l.upsN + l.parts - l.segs - l.brN
theorem mem_ups {p : P} {s : Int} : s ∈ ups p ↔ ∃ x ∈ p.ports, x.up = true ∧ x.seg = s := by
  unfold ups
  rw [List.mem_map]
  constructor
  · rintro ⟨x, hx, rfl⟩; rw [List.mem_filter] at hx; exact ⟨x, hx.1, hx.2, rfl⟩
  · rintro ⟨x, hx, h1, rfl⟩; exact ⟨x, List.mem_filter.2 ⟨hx, h1⟩, rfl⟩
theorem ok_segs {uni : Int → Bool} {l : L} (h : l.okU uni = true) : 1 ≤ l.segs ∧ l.segs ≤ 8 ∧ (l.n : Int) = l.segs := by
  unfold L.okU at h; simp only [Bool.and_eq_true, decide_eq_true_eq] at h
  refine ⟨h.1.1, h.1.2, ?_⟩
  unfold L.n; omega
theorem ok_plans {uni : Int → Bool} {l : L} (h : l.okU uni = true) : l.plans.length ≤ 6 ∧ ∀ p ∈ l.plans, P.ok l.segs p = true := by
  unfold L.okU L.plansB at h; simp only [Bool.and_eq_true, decide_eq_true_eq, List.all_eq_true] at h
  exact ⟨h.2.1.1, h.2.1.2.2⟩
theorem ok_port {n : Int} {p : P} (h : P.ok n p = true) : 1 ≤ p.ports.length ∧ p.ports.length ≤ 8 ∧ ∀ x ∈ p.ports, 0 ≤ x.seg ∧ x.seg < n := by
  unfold P.ok at h; simp only [Bool.and_eq_true, decide_eq_true_eq, List.all_eq_true] at h
  refine ⟨h.2.1.1, h.2.1.2, fun x hx => ?_⟩
  have := h.2.2 x hx
  unfold lkB at this; simp only [Bool.and_eq_true, decide_eq_true_eq] at this
  exact this.1
/-- All that is needed of a plan for what follows. -/
def L.fit (l : L) : Prop := 0 ≤ l.segs ∧ ∀ p ∈ l.plans, ∀ s ∈ ups p, 0 ≤ s ∧ s < l.segs
theorem ok_fit {uni : Int → Bool} {l : L} (h : l.okU uni = true) : l.fit := ⟨by have := (ok_segs h).1; omega, fun p hp s hs => by
  obtain ⟨x, hx, _, rfl⟩ := mem_ups.1 hs
  exact (ok_port ((ok_plans h).2 p hp)).2.2 x hx⟩
theorem fit_pairs {l : L} (h : l.fit) : ∀ x ∈ l.pairs, 0 ≤ x.1 ∧ 0 ≤ x.2 ∧ x.1 < l.n ∧ x.2 < l.n := fun e he => by
  unfold L.pairs at he
  rw [List.mem_flatMap] at he
  obtain ⟨p, hp, he⟩ := he
  obtain ⟨h1, h2⟩ := adj_mem he
  have a := h.2 p hp _ h1
  have b := h.2 p hp _ h2
  have := h.1
  unfold L.n
  omega
theorem pairs_join {α : Type} (g : Int → α) {l : L} : (∀ e ∈ l.pairs, g e.1 = g e.2) ↔ ∀ p ∈ l.plans, ∀ x ∈ ups p, ∀ y ∈ ups p, g x = g y := by
  unfold L.pairs
  constructor
  · intro h p hp
    exact adj_all g fun e he => h e (List.mem_flatMap.2 ⟨p, hp, he⟩)
  · intro h e he
    obtain ⟨p, hp, he⟩ := List.mem_flatMap.1 he
    obtain ⟨h1, h2⟩ := adj_mem he
    exact h p hp _ h1 _ h2
theorem lab_ups (l : L) : ∀ p ∈ l.plans, ∀ x ∈ ups p, ∀ y ∈ ups p, lab l.pairs x = lab l.pairs y := (pairs_join (lab l.pairs)).1 fun e he => lab_join _ _ he
theorem mem_part {l : L} {s t : Int} : t ∈ l.part s ↔ (0 ≤ t ∧ t < l.n) ∧ lab l.pairs t = lab l.pairs s := by
  unfold L.part
  rw [List.mem_filter, List.mem_map]
  constructor
  · rintro ⟨⟨k, hk, rfl⟩, h⟩
    rw [List.mem_range] at hk
    exact ⟨⟨by simp, by simp; exact hk⟩, by simpa using h⟩
  · rintro ⟨⟨h1, h2⟩, h⟩
    exact ⟨⟨t.toNat, List.mem_range.2 (by omega), by simp; omega⟩, by simpa using h⟩
theorem range_up (n : Nat) : ((List.range n).map Int.ofNat).Pairwise (· < ·) := by
  rw [List.pairwise_map]
  exact (List.pairwise_lt_range (n := n)).imp (fun h => by simpa using h)
theorem part_up (l : L) (s : Int) : (l.part s).Pairwise (· < ·) := (range_up _).filter _
theorem part_same {l : L} {a b : Int} (h : lab l.pairs a = lab l.pairs b) : l.part a = l.part b := by unfold L.part; rw [h]
theorem part_head {l : L} (hf : l.fit) {s : Int} (h0 : 0 ≤ s) (h1 : s < l.n) : (l.part s)[0]? = some (lab l.pairs s) := by
  have hl := lab_nonneg l.pairs s (fun x hx => ⟨(fit_pairs hf x hx).1, (fit_pairs hf x hx).2.1⟩) h0
  have hle := lab_le l.pairs s
  have hm : lab l.pairs s ∈ l.part s := mem_part.2 ⟨⟨hl, by omega⟩, lab_idem _ _⟩
  have hp := part_up l s
  have hall : ∀ t ∈ l.part s, lab l.pairs s ≤ t := fun t ht => by
    have := (mem_part.1 ht).2
    have := lab_le l.pairs t
    omega
  cases hq : l.part s with
  | nil => rw [hq] at hm; cases hm
  | cons x r =>
    rw [hq] at hm hp hall
    rw [List.pairwise_cons] at hp
    have h2 := hall x (by simp)
    rcases List.mem_cons.1 hm with h | h
    · rw [h]; rfl
    · have := hp.1 _ h; omega
theorem part_self {l : L} {s : Int} (h0 : 0 ≤ s) (h1 : s < l.n) : s ∈ l.part s := mem_part.2 ⟨⟨h0, h1⟩, rfl⟩
theorem part_len (l : L) (s : Int) : (l.part s).length ≤ l.n := by
  unfold L.part
  have := List.length_filter_le (fun t => lab l.pairs t == lab l.pairs s) ((List.range l.n).map Int.ofNat)
  simpa using this
theorem pairs_len : ∀ (ps : List P), (((ps.flatMap fun p => adj (ups p)).length : Nat) : Int) + ((ps.map fun p => (min (ups p).length 1 : Nat) : List Nat).map Int.ofNat).sum = (ps.map fun p => ((ups p).length : Int)).sum
  | [] => rfl
  | p :: ps => by
    have ih := pairs_len ps
    have := adj_len (ups p)
    simp only [List.flatMap_cons, List.length_append, List.map_cons, List.sum_cons, Int.ofNat_eq_natCast] at ih ⊢
    omega
theorem loops_is {l : L} (h : l.fit) : l.loops = (l.pairs.length : Int) + l.parts - l.n := by
  have := pairs_len l.plans
  have h0 := h.1
  unfold L.loops L.upsN L.brN L.pairs
  rw [← this]
  unfold L.n
  omega
theorem loops_ge {l : L} (h : l.fit) : 0 ≤ l.loops := by
  rw [loops_is h]
  have := parts_ge l.pairs l.n (fit_pairs h)
  unfold L.parts
  omega
/- A port that goes down. -/
def down (p : P) (k : Nat) : P := ⟨p.id, p.ports.set k { p.ports.getD k default with up := false }⟩
def L.cut (l : L) (b k : Nat) : L := { l with plans := l.plans.set b (down (l.plans.getD b default) k) }
theorem ups_split (p : P) {k : Nat} (hk : k < p.ports.length) : ∃ A B : List Int, ups p = A ++ (if (p.ports.getD k default).up = true then [(p.ports.getD k default).seg] else []) ++ B ∧ ups (down p k) = A ++ B := by
  have e0 : p.ports.getD k default = p.ports[k] := by rw [List.getD_eq_getElem?_getD, List.getElem?_eq_getElem hk]; rfl
  refine ⟨((p.ports.take k).filter Lk.up).map Lk.seg, ((p.ports.drop (k + 1)).filter Lk.up).map Lk.seg, ?_, ?_⟩
  · have hp : p.ports = p.ports.take k ++ p.ports[k] :: p.ports.drop (k + 1) := by rw [← List.drop_eq_getElem_cons hk, List.take_append_drop]
    rw [e0]
    unfold ups
    conv => lhs; rw [hp]
    rw [List.filter_append, List.filter_cons, List.map_append]
    cases h : p.ports[k].up <;> simp
  · unfold ups down
    rw [List.set_eq_take_append_cons_drop, if_pos hk, List.filter_append, List.filter_cons]
    simp
theorem set_split {α : Type} (l : List α) {b : Nat} (hb : b < l.length) (y d : α) : ∃ A B, l = A ++ l.getD b d :: B ∧ l.set b y = A ++ y :: B := by
  refine ⟨l.take b, l.drop (b + 1), ?_, ?_⟩
  · have e0 : l.getD b d = l[b] := by rw [List.getD_eq_getElem?_getD, List.getElem?_eq_getElem hb]; rfl
    rw [e0, ← List.drop_eq_getElem_cons hb, List.take_append_drop]
  · rw [List.set_eq_take_append_cons_drop, if_pos hb]
theorem cut_fit {l : L} (h : l.fit) {b k : Nat} (hb : b < l.plans.length) (hk : k < (l.plans.getD b default).ports.length) : (l.cut b k).fit := ⟨h.1, fun p hp s hs => by
  rcases List.mem_or_eq_of_mem_set hp with hp | rfl
  · exact h.2 p hp s hs
  · obtain ⟨A, B, e1, e2⟩ := ups_split (l.plans.getD b default) hk
    have hm : l.plans.getD b default ∈ l.plans := by rw [List.getD_eq_getElem?_getD, List.getElem?_eq_getElem hb]; exact List.getElem_mem hb
    refine h.2 _ hm s ?_
    rw [e2] at hs
    rw [e1]
    rcases List.mem_append.1 hs with h | h <;> simp [h]⟩
/-- What is the same, where no segment of a bridge changes. -/
theorem cut_same {l : L} {b k : Nat} (hb : b < l.plans.length) (hu : adj (ups (down (l.plans.getD b default) k)) = adj (ups (l.plans.getD b default))) : (l.cut b k).pairs = l.pairs := by
  obtain ⟨A, B, e1, e2⟩ := set_split l.plans hb (down (l.plans.getD b default) k) default
  unfold L.cut L.pairs
  simp only
  rw [e2]
  conv => rhs; rw [e1]
  simp only [List.flatMap_append, List.flatMap_cons, hu]
theorem cut_none {l : L} (hf : l.fit) {b k : Nat} (hb : b < l.plans.length) (hk : k < (l.plans.getD b default).ports.length)
    (h : ((l.plans.getD b default).ports.getD k default).up = false ∨ (ups (l.plans.getD b default)).length = 1) : (l.cut b k).loops = l.loops ∧ (l.cut b k).parts = l.parts := by
  obtain ⟨A, B, e1, e2⟩ := ups_split (l.plans.getD b default) hk
  have hu : adj (ups (down (l.plans.getD b default) k)) = adj (ups (l.plans.getD b default)) := by
    cases hq : ((l.plans.getD b default).ports.getD k default).up
    · rw [hq, if_neg (by simp), List.append_nil] at e1
      rw [e1, e2]
    · rw [hq] at h
      have h := h.resolve_left (by simp)
      rw [hq, if_pos rfl] at e1
      rw [e1] at h
      simp only [List.length_append, List.length_cons, List.length_nil] at h
      have hA : A = [] := List.length_eq_zero_iff.1 (by omega)
      have hB : B = [] := List.length_eq_zero_iff.1 (by omega)
      rw [e1, e2, hA, hB]; rfl
  have hp := cut_same hb hu
  have h2 := loops_is hf
  have h3 := loops_is (cut_fit hf hb hk)
  have h4 : (l.cut b k).parts = l.parts := by unfold L.parts; rw [hp]; rfl
  refine ⟨?_, h4⟩
  rw [h2, h3, hp, h4]; rfl
theorem cut_some {l : L} (hf : l.fit) {b k : Nat} (hb : b < l.plans.length) (hk : k < (l.plans.getD b default).ports.length)
    (hu : ((l.plans.getD b default).ports.getD k default).up = true) (h1 : (ups (l.plans.getD b default)).length ≠ 1) :
    ((l.cut b k).loops = l.loops - 1 ∧ (l.cut b k).parts = l.parts) ∨ ((l.cut b k).loops = l.loops ∧ (l.cut b k).parts = l.parts + 1) := by
  obtain ⟨A, B, e1, e2⟩ := ups_split (l.plans.getD b default) hk
  obtain ⟨x, hx⟩ : ∃ x, ((l.plans.getD b default).ports.getD k default).seg = x := ⟨_, rfl⟩
  rw [hu, if_pos rfl, hx] at e1
  have hne : A ++ B ≠ [] := fun h => by
    have : A = [] ∧ B = [] := by simpa using h
    rw [e1, this.1, this.2] at h1
    exact h1 rfl
  obtain ⟨y, hy⟩ : ∃ y, y ∈ A ++ B := List.exists_mem_of_ne_nil _ hne
  obtain ⟨C, D, f1, f2⟩ := set_split l.plans hb (down (l.plans.getD b default) k) default
  obtain ⟨p, hp⟩ : ∃ p, l.plans.getD b default = p := ⟨_, rfl⟩
  rw [hp] at e1 e2 f1 f2 h1
  have f2 : (l.cut b k).plans = C ++ down p k :: D := by unfold L.cut; rw [hp]; exact f2
  have hxp : x ∈ ups p := by rw [e1]; simp
  have hyp : y ∈ ups p := by rw [e1]; rcases List.mem_append.1 hy with h | h <;> simp [h]
  have hpl : p ∈ l.plans := by rw [f1]; simp
  have hfx := hf.2 p hpl x hxp
  have hfy := hf.2 p hpl y hyp
  have hcf := cut_fit hf hb hk
  have hn : (l.cut b k).n = l.n := rfl
  have hnn : (l.n : Int) = l.segs := by have := hf.1; unfold L.n; omega
  -- the same parts as with one pair more
  have key : ∀ s, lab l.pairs s = lab ((x, y) :: (l.cut b k).pairs) s := lab_ext
    ((pairs_join (lab ((x, y) :: (l.cut b k).pairs))).2 fun q hq u hu v hv => by
      have hxy : lab ((x, y) :: (l.cut b k).pairs) x = lab ((x, y) :: (l.cut b k).pairs) y := lab_join _ (x, y) (by simp)
      have hin : ∀ q ∈ (l.cut b k).plans, ∀ u ∈ ups q, ∀ v ∈ ups q, lab ((x, y) :: (l.cut b k).pairs) u = lab ((x, y) :: (l.cut b k).pairs) v :=
        fun q hq u hu v hv => lab_cong (lab_ups _ q hq u hu v hv)
      rw [f1] at hq
      rw [f2] at hin
      rcases List.mem_append.1 hq with hq | hq
      · exact hin q (by simp [hq]) u hu v hv
      rcases List.mem_cons.1 hq with hqp | hq
      · have hd := hin (down p k) (by simp)
        rw [e2] at hd
        rw [hqp, e1] at hu hv
        have hto : ∀ u, u ∈ A ++ [x] ++ B → lab ((x, y) :: (l.cut b k).pairs) u = lab ((x, y) :: (l.cut b k).pairs) y := fun u hu => by
          simp only [List.mem_append, List.mem_singleton] at hu
          rcases hu with (hu | hu) | hu
          · exact hd u (by simp [hu]) y hy
          · rw [hu]; exact hxy
          · exact hd u (by simp [hu]) y hy
        rw [hto u hu, hto v hv]
      · exact hin q (by simp [hq]) u hu v hv)
    (fun e he => by
      have hl := lab_ups l
      rcases List.mem_cons.1 he with rfl | he
      · exact hl p hpl x hxp y hyp
      · refine (pairs_join (lab l.pairs)).2 (fun q hq u hu v hv => ?_) e he
        rw [f2] at hq
        rw [f1] at hl
        rcases List.mem_append.1 hq with hq | hq
        · exact hl q (by simp [hq]) u hu v hv
        rcases List.mem_cons.1 hq with hqp | hq
        · rw [hqp, e2] at hu hv
          refine hl p (by simp) u ?_ v ?_ <;> rw [e1]
          · rcases List.mem_append.1 hu with h | h <;> simp [h]
          · rcases List.mem_append.1 hv with h | h <;> simp [h]
        · exact hl q (by simp [hq]) u hu v hv)
  have hpc := parts_cons (x, y) (l.cut b k).pairs l.n (fun e he => by
    rcases List.mem_cons.1 he with rfl | he
    · exact ⟨hfx.1, hfy.1⟩
    · have := fit_pairs hcf e he; exact ⟨this.1, this.2.1⟩) (by simp only; omega) (by simp only; omega)
  rw [← parts_congr (n := l.n) key] at hpc
  have hlen : l.pairs.length = (l.cut b k).pairs.length + 1 := by
    have g1 : l.pairs.length = (C.flatMap fun p => adj (ups p)).length + ((adj (ups p)).length + (D.flatMap fun p => adj (ups p)).length) := by
      unfold L.pairs; rw [f1]; simp [List.flatMap_append, List.flatMap_cons]
    have g2 : (l.cut b k).pairs.length = (C.flatMap fun p => adj (ups p)).length + ((adj (ups (down p k))).length + (D.flatMap fun p => adj (ups p)).length) := by
      unfold L.pairs; rw [f2]; simp [List.flatMap_append, List.flatMap_cons]
    rw [g1, g2, adj_len, adj_len, e1, e2]
    have : 0 < (A ++ B).length := List.length_pos_iff.2 hne
    simp only [List.length_append, List.length_cons, List.length_nil] at this ⊢
    omega
  have h2 := loops_is hf
  have h3 := loops_is hcf
  rw [hn] at h3
  have q1 : l.parts = (partsN l.pairs l.n : Nat) := rfl
  have q2 : (l.cut b k).parts = (partsN (l.cut b k).pairs l.n : Nat) := rfl
  rcases hpc with h | h
  · left; omega
  · right; omega

/- The reference's way: from a segment on, as many steps as there are segments. -/
def joins (p : P) (s : Int) : Bool := p.ports.any fun x => x.up && x.seg == s
theorem joins_iff {p : P} {s : Int} : joins p s = true ↔ s ∈ ups p := by
  unfold joins
  rw [List.any_eq_true, mem_ups]
  simp
def smP (I : List Bool) (p : P) : Bool := (List.range I.length).any fun t => I.getD t false && joins p (t : Int)
def nxt (ps : List P) (I : List Bool) : List Bool := (List.range I.length).map fun s => I.getD s false || ps.any fun p => smP I p && joins p (s : Int)
def strt (n : Nat) (seg : Int) : List Bool := (List.range n).map fun s : Nat => ((s : Int) == seg)
def L.iter (l : L) (seg : Int) : Nat → List Bool
  | 0 => strt l.n seg
  | k + 1 => nxt l.plans (l.iter seg k)
def trues (I : List Bool) : List Int := ((List.range I.length).map Int.ofNat).filter fun s => I.getD s.toNat false
theorem nxt_len (ps : List P) (I : List Bool) : (nxt ps I).length = I.length := by unfold nxt; simp
theorem iter_len (l : L) (seg : Int) : ∀ k, (l.iter seg k).length = l.n
  | 0 => by unfold L.iter strt; simp
  | k + 1 => by unfold L.iter; rw [nxt_len]; exact iter_len l seg k
theorem getD_map {n : Nat} (f : Nat → Bool) {s : Nat} (hs : s < n) : ((List.range n).map f).getD s false = f s := by
  rw [List.getD_eq_getElem?_getD, List.getElem?_map, List.getElem?_range hs]; rfl
theorem getD_big {I : List Bool} {s : Nat} (hs : I.length ≤ s) : I.getD s false = false := by
  rw [List.getD_eq_getElem?_getD, List.getElem?_eq_none hs]; rfl
theorem nxt_at {ps : List P} {I : List Bool} {s : Nat} (hs : s < I.length) : (nxt ps I).getD s false = (I.getD s false || ps.any fun p => smP I p && joins p (s : Int)) := getD_map _ hs
theorem iter_sub {l : L} (hf : l.fit) {seg : Int} : ∀ (k s : Nat), (l.iter seg k).getD s false = true → lab l.pairs (s : Int) = lab l.pairs seg
  | 0, s, h => by
    by_cases hs : s < l.n
    · unfold L.iter strt at h
      rw [getD_map _ hs] at h
      have : (s : Int) = seg := by simpa using h
      rw [this]
    · rw [getD_big (by rw [iter_len]; omega)] at h; cases h
  | k + 1, s, h => by
    by_cases hs : s < l.n
    · unfold L.iter at h
      rw [nxt_at (by rw [iter_len]; exact hs), Bool.or_eq_true] at h
      rcases h with h | h
      · exact iter_sub hf k s h
      · rw [List.any_eq_true] at h
        obtain ⟨p, hp, h⟩ := h
        rw [Bool.and_eq_true] at h
        unfold smP at h
        rw [List.any_eq_true] at h
        obtain ⟨⟨t, ht, h1⟩, h2⟩ := h
        rw [Bool.and_eq_true] at h1
        have := iter_sub hf k t h1.1
        rw [← this]
        exact lab_ups l p hp _ (joins_iff.1 h2) _ (joins_iff.1 h1.2)
    · rw [getD_big (by rw [iter_len]; omega)] at h; cases h
theorem iter_mono {l : L} {seg : Int} {k s : Nat} (h : (l.iter seg k).getD s false = true) : (l.iter seg (k + 1)).getD s false = true := by
  by_cases hs : s < l.n
  · unfold L.iter
    rw [nxt_at (by rw [iter_len]; exact hs), h, Bool.true_or]
  · rw [getD_big (by rw [iter_len]; omega)] at h; cases h
theorem iter_seg {l : L} {seg : Nat} (hs : seg < l.n) : ∀ k, (l.iter (seg : Int) k).getD seg false = true
  | 0 => by unfold L.iter strt; rw [getD_map _ hs]; simp
  | k + 1 => iter_mono (iter_seg hs k)
def cntI (I : List Bool) : Nat := cnt (fun s => I.getD s.toNat false) I.length
theorem cnt_mono {p q : Int → Bool} : ∀ {n : Nat}, (∀ s : Nat, s < n → p (s : Int) = true → q (s : Int) = true) → cnt p n ≤ cnt q n
  | 0, _ => Nat.le_refl _
  | n + 1, h => by
    have ih := cnt_mono (n := n) (fun s hs => h s (by omega))
    unfold cnt
    by_cases hp : p (n : Int) = true
    · rw [if_pos hp, if_pos (h n (by omega) hp)]; omega
    · rw [if_neg hp]; split <;> omega
theorem cnt_more {p q : Int → Bool} : ∀ {n : Nat}, (∀ s : Nat, s < n → p (s : Int) = true → q (s : Int) = true) → ∀ s : Nat, s < n → p (s : Int) = false → q (s : Int) = true → cnt p n + 1 ≤ cnt q n
  | 0, _, s, hs, _, _ => by omega
  | n + 1, h, s, hs, h1, h2 => by
    unfold cnt
    by_cases he : s = n
    · subst he
      have ih := cnt_mono (n := s) (fun t ht => h t (by omega))
      rw [h1, h2]; simp; omega
    · have ih := cnt_more (n := n) (fun t ht => h t (by omega)) s (by omega) h1 h2
      by_cases hp : p (n : Int) = true
      · rw [if_pos hp, if_pos (h n (by omega) hp)]; omega
      · rw [if_neg hp]; split <;> omega
theorem iter_grow (l : L) {seg : Nat} (hs : seg < l.n) : ∀ k, l.iter (seg : Int) (k + 1) = l.iter seg k ∨ k + 1 ≤ cntI (l.iter seg k)
  | 0 => by
    right
    have := cnt_more (p := fun _ => false) (q := fun s => (l.iter seg 0).getD s.toNat false) (n := (l.iter seg 0).length) (fun _ _ h => by cases h) seg (by rw [iter_len]; exact hs) rfl (by simpa using iter_seg hs 0)
    unfold cntI
    omega
  | k + 1 => by
    rcases iter_grow l hs k with h | h
    · left
      show nxt l.plans (l.iter seg (k + 1)) = nxt l.plans (l.iter seg k)
      rw [h]
    · by_cases he : l.iter (seg : Int) (k + 1) = l.iter seg k
      · left
        show nxt l.plans (l.iter seg (k + 1)) = nxt l.plans (l.iter seg k)
        rw [he]
      · right
        have hex : ∃ s : Nat, s < l.n ∧ (l.iter (seg : Int) k).getD s false = false ∧ (l.iter (seg : Int) (k + 1)).getD s false = true := by
          refine Classical.byContradiction fun hno => he ?_
          refine List.ext_getElem (by rw [iter_len, iter_len]) fun s h1 h2 => ?_
          have e1 : (l.iter (seg : Int) (k + 1))[s] = (l.iter (seg : Int) (k + 1)).getD s false := by rw [List.getD_eq_getElem?_getD, List.getElem?_eq_getElem h1]; rfl
          have e2 : (l.iter (seg : Int) k)[s] = (l.iter (seg : Int) k).getD s false := by rw [List.getD_eq_getElem?_getD, List.getElem?_eq_getElem h2]; rfl
          rw [e1, e2]
          cases q1 : (l.iter (seg : Int) k).getD s false
          · cases q2 : (l.iter (seg : Int) (k + 1)).getD s false
            · rfl
            · exact absurd ⟨s, by rw [iter_len] at h1; exact h1, q1, q2⟩ hno
          · exact iter_mono q1
        obtain ⟨s, h1, h2, h3⟩ := hex
        have := cnt_more (p := fun s => (l.iter seg k).getD s.toNat false) (q := fun s => (l.iter seg (k + 1)).getD s.toNat false) (n := l.n) (fun t _ ht => by simpa using iter_mono (by simpa using ht)) s h1 (by simpa using h2) (by simpa using h3)
        unfold cntI at h ⊢
        rw [iter_len] at h ⊢
        omega
theorem iter_end (l : L) {seg : Nat} (hs : seg < l.n) : nxt l.plans (l.iter (seg : Int) l.n) = l.iter seg l.n := by
  rcases iter_grow l hs l.n with h | h
  · exact h
  · have := cnt_le (fun s => (l.iter (seg : Int) l.n).getD s.toNat false) (l.iter (seg : Int) l.n).length
    unfold cntI at h
    rw [iter_len] at this h
    omega
theorem iter_all {l : L} (hf : l.fit) {seg : Nat} (hs : seg < l.n) {s : Nat} (hn : s < l.n) (h : lab l.pairs (s : Int) = lab l.pairs seg) : (l.iter (seg : Int) l.n).getD s false = true := by
  obtain ⟨I, hI⟩ : ∃ I, l.iter (seg : Int) l.n = I := ⟨_, rfl⟩
  have he := iter_end l hs
  have hlen := iter_len l (seg : Int) l.n
  have hseg := iter_seg hs l.n
  rw [hI] at he hlen hseg ⊢
  have hstep : ∀ p ∈ l.plans, ∀ x ∈ ups p, ∀ y ∈ ups p, I.getD x.toNat false = true → I.getD y.toNat false = true := fun p hp x hx y hy hin => by
    have bx := hf.2 p hp x hx
    have by_ := hf.2 p hp y hy
    have hyn : y.toNat < I.length := by rw [hlen]; unfold L.n; omega
    rw [← he, nxt_at hyn, Bool.or_eq_true]
    right
    rw [List.any_eq_true]
    refine ⟨p, hp, ?_⟩
    rw [Bool.and_eq_true]
    refine ⟨?_, joins_iff.2 (by rw [Int.toNat_of_nonneg by_.1]; exact hy)⟩
    unfold smP
    rw [List.any_eq_true]
    refine ⟨x.toNat, List.mem_range.2 (by rw [hlen]; unfold L.n; omega), ?_⟩
    rw [Bool.and_eq_true]
    exact ⟨hin, joins_iff.2 (by rw [Int.toNat_of_nonneg bx.1]; exact hx)⟩
  have hg := lab_univ (fun s => I.getD s.toNat false) l.pairs ((pairs_join _).2 fun p hp x hx y hy => by
    rw [Bool.eq_iff_iff]
    exact ⟨hstep p hp x hx y hy, hstep p hp y hy x hx⟩)
  have h1 := hg (s : Int)
  have h2 := hg (seg : Int)
  rw [h] at h1
  rw [h1] at h2
  simp only [Int.toNat_natCast] at h2
  rw [h2]; exact hseg
theorem trues_part {l : L} (hf : l.fit) {seg : Nat} (hs : seg < l.n) : trues (l.iter (seg : Int) l.n) = l.part seg := by
  unfold trues L.part
  rw [iter_len]
  refine List.filter_congr fun t ht => ?_
  obtain ⟨s, h1, rfl⟩ := List.mem_map.1 ht
  rw [List.mem_range] at h1
  rw [Bool.eq_iff_iff]
  simp only [Int.ofNat_eq_natCast, Int.toNat_natCast, beq_iff_eq]
  exact ⟨iter_sub hf _ _, iter_all hf hs h1⟩
end Go.Proofs.Ytgcmklliafcffaa.LanP
