/- Layer 17 (flood), plain facts: the opened plan (L.op), which segments a bridge joins (lnk), what steps are and that they are the only ones (Dst, dst_only), the way by a queue (Bfs), the reference's rounds (rndT), the flood is a part (dst_lab). -/
import Derived.Test.YtgcmklliafcffaaTreeA
namespace Go.Proofs.Ytgcmklliafcffaa.LanP
set_option linter.unusedVariables false
set_option maxRecDepth 100000
/-- A bridge's ports, those alone up that a row says are open. -/
def opX (p : P) (r : List Bool) (k : Nat) : Lk := { p.ports.getD k default with up := (p.ports.getD k default).up && r.getD k false }
def opTo (p : P) (r : List Bool) (j : Nat) : List Lk := (List.range j).map (opX p r)
def opP (p : P) (r : List Bool) : P := ⟨p.id, opTo p r p.ports.length⟩
def opsTo (l : L) (O : List (List Bool)) (b : Nat) : List P := (List.range b).map fun b => opP (pl l b) (O.getD b [])
def L.op (l : L) (O : List (List Bool)) : L := ⟨l.segs, opsTo l O l.plans.length, []⟩
theorem opTo_succ (p : P) (r : List Bool) (j : Nat) : opTo p r (j + 1) = opTo p r j ++ [opX p r j] := by unfold opTo; rw [List.range_succ, List.map_append]; rfl
theorem opTo_len (p : P) (r : List Bool) (j : Nat) : (opTo p r j).length = j := by unfold opTo; simp
theorem opsTo_succ (l : L) (O : List (List Bool)) (b : Nat) : opsTo l O (b + 1) = opsTo l O b ++ [opP (pl l b) (O.getD b [])] := by unfold opsTo; rw [List.range_succ, List.map_append]; rfl
theorem opsTo_len (l : L) (O : List (List Bool)) (b : Nat) : (opsTo l O b).length = b := by unfold opsTo; simp
theorem op_n (l : L) (O : List (List Bool)) : (l.op O).n = l.n := rfl
theorem op_segs (l : L) (O : List (List Bool)) : (l.op O).segs = l.segs := rfl
theorem op_len (l : L) (O : List (List Bool)) : (l.op O).plans.length = l.plans.length := opsTo_len _ _ _
theorem op_get {l : L} {O : List (List Bool)} {b : Nat} (hb : b < l.plans.length) : (l.op O).plans[b]? = some (opP (pl l b) (O.getD b [])) := by
  unfold L.op opsTo
  rw [List.getElem?_map, List.getElem?_range hb]; rfl
theorem op_pl {l : L} {O : List (List Bool)} {b : Nat} (hb : b < l.plans.length) : pl (l.op O) b = opP (pl l b) (O.getD b []) := by
  unfold pl at *
  rw [List.getD_eq_getElem?_getD, op_get hb]; rfl
theorem mem_opX {p : P} {r : List Bool} {x : Lk} : x ∈ (opP p r).ports ↔ ∃ k, k < p.ports.length ∧ opX p r k = x := by
  unfold opP opTo
  rw [List.mem_map]
  constructor
  · rintro ⟨k, hk, rfl⟩; exact ⟨k, List.mem_range.1 hk, rfl⟩
  · rintro ⟨k, hk, rfl⟩; exact ⟨k, List.mem_range.2 hk, rfl⟩
theorem mem_op {l : L} {O : List (List Bool)} {p : P} : p ∈ (l.op O).plans ↔ ∃ b, b < l.plans.length ∧ opP (pl l b) (O.getD b []) = p := by
  unfold L.op opsTo
  rw [List.mem_map]
  constructor
  · rintro ⟨k, hk, rfl⟩; exact ⟨k, List.mem_range.1 hk, rfl⟩
  · rintro ⟨k, hk, rfl⟩; exact ⟨k, List.mem_range.2 hk, rfl⟩
theorem ups_opP {p : P} {r : List Bool} {s : Int} (h : s ∈ ups (opP p r)) : s ∈ ups p := by
  obtain ⟨x, hx, h1, rfl⟩ := mem_ups.1 h
  obtain ⟨k, hk, rfl⟩ := mem_opX.1 hx
  unfold opX at h1
  simp only [Bool.and_eq_true] at h1
  refine mem_ups.2 ⟨p.ports.getD k default, ?_, h1.1, rfl⟩
  rw [List.getD_eq_getElem?_getD, List.getElem?_eq_getElem hk]; exact List.getElem_mem hk
theorem op_fit {l : L} (h : l.fit) (O : List (List Bool)) : (l.op O).fit := ⟨h.1, fun p hp s hs => by
  obtain ⟨b, hb, rfl⟩ := mem_op.1 hp
  exact h.2 _ (pl_mem hb) s (ups_opP hs)⟩
/- Which segments a bridge joins. -/
def lnk (l : L) (s t : Int) : Bool := l.plans.any fun p => joins p s && joins p t
theorem lnk_iff {l : L} {s t : Int} : lnk l s t = true ↔ ∃ p ∈ l.plans, s ∈ ups p ∧ t ∈ ups p := by
  unfold lnk
  rw [List.any_eq_true]
  simp only [Bool.and_eq_true, joins_iff]
theorem lnk_symm {l : L} {s t : Int} (h : lnk l s t = true) : lnk l t s = true := by
  obtain ⟨p, hp, h1, h2⟩ := lnk_iff.1 h
  exact lnk_iff.2 ⟨p, hp, h2, h1⟩
theorem lnk_in {l : L} (hf : l.fit) {s t : Int} (h : lnk l s t = true) : (0 ≤ s ∧ s < l.segs) ∧ (0 ≤ t ∧ t < l.segs) := by
  obtain ⟨p, hp, h1, h2⟩ := lnk_iff.1 h
  exact ⟨hf.2 p hp s h1, hf.2 p hp t h2⟩
/-- What steps are. -/
structure Dst (l : L) (f : Int) (g : Int → Int) : Prop where
  zero : g f = 0
  only : ∀ t, 0 ≤ t → t < l.segs → g t = 0 → t = f
  ge : ∀ t, 0 ≤ t → t < l.segs → -1 ≤ g t
  step : ∀ s t, lnk l s t = true → 0 ≤ g s → 0 ≤ g t ∧ g t ≤ g s + 1
  back : ∀ t, 0 ≤ t → t < l.segs → 0 < g t → ∃ s, lnk l s t = true ∧ g s = g t - 1
theorem dst_le {l : L} (hf : l.fit) {f : Int} {g h : Int → Int} (G : Dst l f g) (H : Dst l f h) : ∀ (k : Nat) (t : Int), 0 ≤ t → t < l.segs → h t = k → 0 ≤ g t ∧ g t ≤ h t
  | 0, t, t0, t1, hk => by
    have := H.only t t0 t1 hk
    subst this
    have := G.zero
    omega
  | k + 1, t, t0, t1, hk => by
    obtain ⟨s, h1, h2⟩ := H.back t t0 t1 (by omega)
    have hs := (lnk_in hf h1).1
    have ih := dst_le hf G H k s hs.1 hs.2 (by omega)
    have := G.step s t h1 ih.1
    omega
theorem dst_only {l : L} (hf : l.fit) {f : Int} {g h : Int → Int} (G : Dst l f g) (H : Dst l f h) {t : Int} (t0 : 0 ≤ t) (t1 : t < l.segs) : g t = h t := by
  have a := G.ge t t0 t1
  have b := H.ge t t0 t1
  by_cases hg : 0 ≤ g t
  · have c := dst_le hf H G (g t).toNat t t0 t1 (by omega)
    have d := dst_le hf G H (h t).toNat t t0 t1 (by omega)
    omega
  · by_cases hh : 0 ≤ h t
    · have d := dst_le hf G H (h t).toNat t t0 t1 (by omega)
      omega
    · omega
theorem dst_down {l : L} (hf : l.fit) {f : Int} {g : Int → Int} (G : Dst l f g) : ∀ (m : Nat) (t : Int), 0 ≤ t → t < l.segs → (m : Int) ≤ g t → ∃ s, 0 ≤ s ∧ s < l.segs ∧ g s = g t - m
  | 0, t, t0, t1, h => ⟨t, t0, t1, by omega⟩
  | m + 1, t, t0, t1, h => by
    obtain ⟨s, a, b, c⟩ := dst_down hf G m t t0 t1 (by omega)
    obtain ⟨u, h1, h2⟩ := G.back s a b (by omega)
    have := (lnk_in hf h1).1
    exact ⟨u, this.1, this.2, by omega⟩
/-- All are fewer than segments. -/
theorem dst_lt {l : L} (hf : l.fit) {f : Int} {g : Int → Int} (G : Dst l f g) {t : Int} (t0 : 0 ≤ t) (t1 : t < l.segs) : g t < l.segs := by
  refine Classical.byContradiction fun hn => ?_
  have hn : l.segs ≤ g t := by omega
  have hn0 : (l.n : Int) = l.segs := by unfold L.n; omega
  have key : ∀ j : Nat, ∃ s : Nat, j ≤ l.n → s < l.n ∧ g s = j := fun j => by
    by_cases hj : j ≤ l.n
    · obtain ⟨s, a, b, c⟩ := dst_down hf G (g t - j).toNat t t0 t1 (by omega)
      exact ⟨s.toNat, fun _ => ⟨by omega, by rw [show ((s.toNat : Nat) : Int) = s by omega]; omega⟩⟩
    · exact ⟨0, fun h => absurd h hj⟩
  obtain ⟨p, q, h1, h2, h3⟩ := pigeon l.n (fun j => (key j).choose) (fun j hj => ((key j).choose_spec hj).1)
  have a := ((key p).choose_spec (by omega)).2
  have b := ((key q).choose_spec (by omega)).2
  have h3 : (key p).choose = (key q).choose := h3
  rw [h3] at a
  omega
/-- A flood is a part. -/
theorem dst_lab {l : L} (hf : l.fit) {f : Int} {g : Int → Int} (hf0 : 0 ≤ f) (hf1 : f < l.segs) (G : Dst l f g) {t : Int} (t0 : 0 ≤ t) (t1 : t < l.segs) : 0 ≤ g t ↔ lab l.pairs t = lab l.pairs f := by
  constructor
  · intro h
    obtain ⟨k, hk⟩ : ∃ k : Nat, g t = k := ⟨(g t).toNat, by omega⟩
    clear h
    induction k generalizing t with
    | zero => rw [G.only t t0 t1 hk]
    | succ k ih =>
      obtain ⟨s, h1, h2⟩ := G.back t t0 t1 (by omega)
      have hs := (lnk_in hf h1).1
      obtain ⟨p, hp, u1, u2⟩ := lnk_iff.1 h1
      rw [lab_ups l p hp t u2 s u1]
      exact ih hs.1 hs.2 (by omega)
  · intro h
    have hu := lab_univ (fun s => decide (0 ≤ g s)) l.pairs ((pairs_join (fun s => decide (0 ≤ g s))).2 fun p hp x hx y hy => by
      show decide (0 ≤ g x) = decide (0 ≤ g y)
      have h1 := fun a => G.step x y (lnk_iff.2 ⟨p, hp, hx, hy⟩) a
      have h2 := fun a => G.step y x (lnk_iff.2 ⟨p, hp, hy, hx⟩) a
      by_cases hx0 : 0 ≤ g x
      · rw [decide_eq_true hx0, decide_eq_true (h1 hx0).1]
      · have : ¬ 0 ≤ g y := fun q => hx0 (h2 q).1
        rw [decide_eq_false hx0, decide_eq_false this])
    have a := hu t
    have b := hu f
    rw [h] at a
    rw [b] at a
    have z := G.zero
    rw [decide_eq_true (by omega : 0 ≤ g f)] at a
    exact of_decide_eq_true a.symm
/- The reference's rounds. -/
def rnd1 (l : L) (n : Int) (g : Int → Int) (S : Nat) (t : Int) : Int := if (decide (g t < 0) && (List.range S).any fun s => decide (g (s : Int) = n - 1) && lnk l (s : Int) t) = true then n else g t
def rndT (l : L) (f : Int) : Nat → Int → Int
  | 0, t => if t = f then 0 else -1
  | k + 1, t => rnd1 l ((k : Int) + 1) (rndT l f k) l.n t
structure Rnd (l : L) (f : Int) (k : Int) (g : Int → Int) : Prop where
  zero : g f = 0
  only : ∀ t, 0 ≤ t → t < l.segs → g t = 0 → t = f
  ge : ∀ t, 0 ≤ t → t < l.segs → -1 ≤ g t
  le : ∀ t, 0 ≤ t → t < l.segs → g t ≤ k
  step : ∀ s t, lnk l s t = true → 0 ≤ g s → g s < k → 0 ≤ g t ∧ g t ≤ g s + 1
  back : ∀ t, 0 ≤ t → t < l.segs → 0 < g t → ∃ s, lnk l s t = true ∧ g s = g t - 1
theorem rnd_zero {l : L} {f : Int} : Rnd l f 0 (rndT l f 0) := by
  have h1 : ∀ t, rndT l f 0 t = if t = f then 0 else -1 := fun t => rfl
  refine ⟨by rw [h1, if_pos rfl], fun t _ _ h => ?_, fun t _ _ => ?_, fun t _ _ => ?_, fun s t _ a b => by omega, fun t _ _ h => ?_⟩
  · rw [h1] at h; split at h <;> omega
  · rw [h1]; split <;> omega
  · rw [h1]; split <;> omega
  · rw [h1] at h; split at h <;> omega
theorem rnd1_iff {l : L} {n : Int} {g : Int → Int} {S : Nat} {t : Int} : (decide (g t < 0) && (List.range S).any fun s => decide (g (s : Int) = n - 1) && lnk l (s : Int) t) = true ↔ g t < 0 ∧ ∃ s : Nat, s < S ∧ g s = n - 1 ∧ lnk l s t = true := by
  simp only [Bool.and_eq_true, decide_eq_true_eq, List.any_eq_true, List.mem_range]
theorem rnd_succ {l : L} (hf : l.fit) {f : Int} {k : Nat} {g : Int → Int} (h : Rnd l f k g) : Rnd l f ((k : Int) + 1) (rnd1 l ((k : Int) + 1) g l.n) := by
  have hn0 : (l.n : Int) = l.segs := by have := hf.1; unfold L.n; omega
  have cs : ∀ t, (rnd1 l ((k : Int) + 1) g l.n t = (k : Int) + 1 ∧ g t < 0 ∧ ∃ s : Nat, s < l.n ∧ g s = k ∧ lnk l s t = true) ∨ (rnd1 l ((k : Int) + 1) g l.n t = g t ∧ ¬ (g t < 0 ∧ ∃ s : Nat, s < l.n ∧ g s = k ∧ lnk l s t = true)) := fun t => by
    unfold rnd1
    split
    · rename_i hc
      have := rnd1_iff.1 hc
      rw [Int.add_sub_cancel] at this
      exact .inl ⟨rfl, this⟩
    · rename_i hc
      refine .inr ⟨rfl, fun hh => hc (rnd1_iff.2 ?_)⟩
      rw [Int.add_sub_cancel]; exact hh
  refine ⟨?_, fun t t0 t1 e => ?_, fun t t0 t1 => ?_, fun t t0 t1 => ?_, fun s t hl s0 s1 => ?_, fun t t0 t1 hp => ?_⟩
  · have := h.zero
    rcases cs f with ⟨e, a, _⟩ | ⟨e, _⟩ <;> omega
  · rcases cs t with ⟨e2, a, _⟩ | ⟨e2, _⟩
    · omega
    · exact h.only t t0 t1 (by omega)
  · have := h.ge t t0 t1
    rcases cs t with ⟨e, a, _⟩ | ⟨e, _⟩ <;> omega
  · have := h.le t t0 t1
    rcases cs t with ⟨e, a, _⟩ | ⟨e, _⟩ <;> omega
  · have hin := lnk_in hf hl
    rcases cs s with ⟨e, a, _⟩ | ⟨e, _⟩
    · omega
    · rw [e] at s0 s1
      by_cases hk : g s < k
      · have a := h.step s t hl s0 hk
        rcases cs t with ⟨e3, b, _⟩ | ⟨e3, _⟩ <;> omega
      · have hk : g s = k := by omega
        rcases cs t with ⟨e3, b, _⟩ | ⟨e3, b⟩
        · omega
        · have : 0 ≤ g t := by
            refine Classical.byContradiction fun hq => b ⟨by omega, s.toNat, by omega, ?_, ?_⟩
            · rw [show ((s.toNat : Nat) : Int) = s by omega]; exact hk
            · rw [show ((s.toNat : Nat) : Int) = s by omega]; exact hl
          have := h.le t hin.2.1 hin.2.2
          omega
  · rcases cs t with ⟨e, a, s, s0, s1, s2⟩ | ⟨e, _⟩
    · refine ⟨s, s2, ?_⟩
      rcases cs (s : Int) with ⟨e2, b, _⟩ | ⟨e2, _⟩ <;> omega
    · rw [e] at hp
      obtain ⟨s, h1, h2⟩ := h.back t t0 t1 hp
      refine ⟨s, h1, ?_⟩
      rcases cs s with ⟨e2, b, _⟩ | ⟨e2, _⟩ <;> omega
theorem rnd_is {l : L} (hf : l.fit) {f : Int} : ∀ k : Nat, Rnd l f k (rndT l f k)
  | 0 => rnd_zero
  | k + 1 => rnd_succ hf (rnd_is hf k)
theorem rnd_down {l : L} (hf : l.fit) {f : Int} {k : Int} {g : Int → Int} (G : Rnd l f k g) : ∀ (m : Nat) (t : Int), 0 ≤ t → t < l.segs → (m : Int) ≤ g t → ∃ s, 0 ≤ s ∧ s < l.segs ∧ g s = g t - m
  | 0, t, t0, t1, h => ⟨t, t0, t1, by omega⟩
  | m + 1, t, t0, t1, h => by
    obtain ⟨s, a, b, c⟩ := rnd_down hf G m t t0 t1 (by omega)
    obtain ⟨u, h1, h2⟩ := G.back s a b (by omega)
    have := (lnk_in hf h1).1
    exact ⟨u, this.1, this.2, by omega⟩
/-- Behind one round fewer than there are segments. -/
def L.dst (l : L) (f : Int) : Int → Int := rndT l f (l.n - 1)
theorem dst_is {l : L} (hf : l.fit) {f : Int} (hf0 : 0 ≤ f) (hf1 : f < l.segs) : Dst l f (l.dst f) := by
  have hn0 : (l.n : Int) = l.segs := by have := hf.1; unfold L.n; omega
  obtain ⟨N, hN⟩ : ∃ N, l.n = N + 1 := ⟨l.n - 1, by omega⟩
  have R : Rnd l f N (l.dst f) := by unfold L.dst; rw [hN, Nat.add_sub_cancel]; exact rnd_is hf N
  refine ⟨R.zero, R.only, R.ge, fun s t hl s0 => ?_, R.back⟩
  have hin := lnk_in hf hl
  have hle := R.le s hin.1.1 hin.1.2
  by_cases hs : l.dst f s < N
  · exact R.step s t hl s0 hs
  · have hsN : l.dst f s = N := by omega
    have htl := R.le t hin.2.1 hin.2.2
    refine ⟨Classical.byContradiction fun ht => ?_, by omega⟩
    have key : ∀ j : Nat, ∃ u : Nat, j ≤ N → u < l.n ∧ l.dst f u = j := fun j => by
      by_cases hj : j ≤ N
      · obtain ⟨u, a, b, c⟩ := rnd_down hf R (N - j) s hin.1.1 hin.1.2 (by omega)
        exact ⟨u.toNat, fun _ => ⟨by omega, by rw [show ((u.toNat : Nat) : Int) = u by omega]; omega⟩⟩
      · exact ⟨0, fun h => absurd h hj⟩
    obtain ⟨p, q, h1, h2, h3⟩ := pigeon (N + 1) (fun j => if j ≤ N then (key j).choose else t.toNat) (fun j hj => by
      show (if j ≤ N then (key j).choose else t.toNat) < N + 1
      split
      · rename_i e; have := ((key j).choose_spec e).1; omega
      · omega)
    have h3 : (if p ≤ N then (key p).choose else t.toNat) = (if q ≤ N then (key q).choose else t.toNat) := h3
    rw [if_pos (by omega : p ≤ N)] at h3
    have a := ((key p).choose_spec (by omega)).2
    split at h3
    · rename_i e
      have b := ((key q).choose_spec e).2
      rw [h3] at a
      omega
    · rw [h3, show ((t.toNat : Nat) : Int) = t by omega] at a
      omega
theorem dst_eq {l : L} (hf : l.fit) {f : Int} (hf0 : 0 ≤ f) (hf1 : f < l.segs) {g : Int → Int} (G : Dst l f g) {t : Int} (t0 : 0 ≤ t) (t1 : t < l.segs) : g t = l.dst f t := dst_only hf G (dst_is hf hf0 hf1) t0 t1
/- The way by a queue. -/
structure Bfs (l : L) (f : Int) (a : Nat) (Q : List Int) (D : Int → Int) : Prop where
  q0 : Q[0]? = some f
  nod : Q.Nodup
  rng : ∀ x ∈ Q, 0 ≤ x ∧ x < l.segs
  zero : D f = 0
  pos : ∀ x ∈ Q, x ≠ f → 0 < D x
  mono : ∀ (i j : Nat) x y, i ≤ j → Q[i]? = some x → Q[j]? = some y → D x ≤ D y
  top : ∀ x ∈ Q, ∀ y, Q[a]? = some y → D x ≤ D y + 1
  back : ∀ x ∈ Q, 0 < D x → ∃ s ∈ Q, lnk l s x = true ∧ D s = D x - 1
  done : ∀ i x, i < a → Q[i]? = some x → ∀ t, lnk l x t = true → t ∈ Q ∧ D t ≤ D x + 1
  len : a ≤ Q.length
theorem Bfs.nn {l : L} {f : Int} {a : Nat} {Q : List Int} {D : Int → Int} (h : Bfs l f a Q D) {x : Int} (hx : x ∈ Q) : 0 ≤ D x := by
  by_cases e : x = f
  · rw [e, h.zero]; omega
  · have := h.pos x hx e; omega
theorem bfs_start {l : L} {f : Int} (h0 : 0 ≤ f) (h1 : f < l.segs) {D : Int → Int} (hD : D f = 0) : Bfs l f 0 [f] D :=
  ⟨rfl, by simp, by simp; omega, hD, fun x hx hn => absurd (List.mem_singleton.1 hx) hn, fun i j x y _ hi hj => by
    have hi := List.mem_singleton.1 (List.mem_of_getElem? hi)
    have hj := List.mem_singleton.1 (List.mem_of_getElem? hj)
    subst hi; subst hj; omega, fun x hx y hy => by
    have hy := List.mem_singleton.1 (List.mem_of_getElem? hy)
    have hx := List.mem_singleton.1 hx
    subst hx; subst hy; omega, fun x hx hp => by rw [List.mem_singleton.1 hx] at hp; omega, fun i x hi => absurd hi (by omega), by simp⟩
def updD (D : Int → Int) (k v : Int) : Int → Int := fun j => if j = k then v else D j
theorem bfs_push {l : L} (hf : l.fit) {f : Int} {a : Nat} {Q : List Int} {D : Int → Int} (h : Bfs l f a Q D) {s t : Int} (hs : Q[a]? = some s) (hl : lnk l s t = true) (hn : t ∉ Q) : Bfs l f a (Q ++ [t]) (updD D t (D s + 1)) := by
  have hal : a < Q.length := (List.getElem?_eq_some_iff.1 hs).1
  have hsQ := List.mem_of_getElem? hs
  have hD : ∀ x ∈ Q, updD D t (D s + 1) x = D x := fun x hx => by
    unfold updD
    rw [if_neg (fun e : x = t => hn (e ▸ hx))]
  have hDt : updD D t (D s + 1) t = D s + 1 := by unfold updD; rw [if_pos rfl]
  have hfQ := List.mem_of_getElem? h.q0
  have hget : ∀ i x, (Q ++ [t])[i]? = some x → (i < Q.length ∧ Q[i]? = some x) ∨ (i = Q.length ∧ x = t) := fun i x hx => by
    by_cases hi : i < Q.length
    · rw [List.getElem?_append_left hi] at hx; exact .inl ⟨hi, hx⟩
    · have hi2 := (List.getElem?_eq_some_iff.1 hx).1
      simp only [List.length_append, List.length_singleton] at hi2
      have e : i = Q.length := by omega
      rw [e, List.getElem?_append_right (Nat.le_refl _), Nat.sub_self] at hx
      exact .inr ⟨e, (Option.some.inj hx).symm⟩
  have hsn := h.nn hsQ
  refine ⟨?_, ?_, ?_, ?_, ?_, ?_, ?_, ?_, ?_, ?_⟩
  · rw [List.getElem?_append_left (by omega)]; exact h.q0
  · rw [List.nodup_append]
    refine ⟨h.nod, by simp, fun x hx y hy => ?_⟩
    rw [List.mem_singleton.1 hy]
    exact fun e => hn (e ▸ hx)
  · intro x hx
    rcases List.mem_append.1 hx with hx | hx
    · exact h.rng x hx
    · rw [List.mem_singleton.1 hx]; exact (lnk_in hf hl).2
  · rw [hD f hfQ]; exact h.zero
  · intro x hx hne
    rcases List.mem_append.1 hx with hx | hx
    · rw [hD x hx]; exact h.pos x hx hne
    · rw [List.mem_singleton.1 hx, hDt]; omega
  · intro i j x y hij hi hj
    rcases hget i x hi with ⟨_, hi'⟩ | ⟨ei, ex⟩
    · have hxQ := List.mem_of_getElem? hi'
      rcases hget j y hj with ⟨_, hj'⟩ | ⟨ej, ey⟩
      · rw [hD x hxQ, hD y (List.mem_of_getElem? hj')]; exact h.mono i j x y hij hi' hj'
      · rw [hD x hxQ, ey, hDt]; exact h.top x hxQ s hs
    · rcases hget j y hj with ⟨hj2, _⟩ | ⟨ej, ey⟩
      · omega
      · rw [ex, ey]; omega
  · intro x hx y hy
    rcases hget a y hy with ⟨_, hy'⟩ | ⟨e, _⟩
    · have hys : y = s := Option.some.inj (hy'.symm.trans hs)
      subst hys
      rw [hD y hsQ]
      rcases List.mem_append.1 hx with hx | hx
      · rw [hD x hx]; exact h.top x hx y hs
      · rw [List.mem_singleton.1 hx, hDt]; omega
    · omega
  · intro x hx hp
    rcases List.mem_append.1 hx with hx | hx
    · rw [hD x hx] at hp ⊢
      obtain ⟨u, h1, h2, h3⟩ := h.back x hx hp
      exact ⟨u, by simp [h1], h2, by rw [hD u h1]; exact h3⟩
    · rw [List.mem_singleton.1 hx, hDt]
      exact ⟨s, by simp [hsQ], hl, by rw [hD s hsQ]; omega⟩
  · intro i x hi hx u hu
    rcases hget i x hx with ⟨_, hx'⟩ | ⟨e, _⟩
    · obtain ⟨h1, h2⟩ := h.done i x hi hx' u hu
      rw [hD x (List.mem_of_getElem? hx'), hD u h1]
      exact ⟨by simp [h1], h2⟩
    · omega
  · simp; omega
theorem bfs_next {l : L} {f : Int} {a : Nat} {Q : List Int} {D : Int → Int} (h : Bfs l f a Q D) {s : Int} (hs : Q[a]? = some s) (hd : ∀ t, lnk l s t = true → t ∈ Q) : Bfs l f (a + 1) Q D := by
  refine ⟨h.q0, h.nod, h.rng, h.zero, h.pos, h.mono, ?_, h.back, ?_, (List.getElem?_eq_some_iff.1 hs).1⟩
  · intro x hx y hy
    have := h.top x hx s hs
    have := h.mono a (a + 1) s y (by omega) hs hy
    omega
  · intro i x hi hx t ht
    by_cases e : i = a
    · subst e
      have := Option.some.inj (hx.symm.trans hs)
      subst this
      have ht2 := hd t ht
      exact ⟨ht2, h.top t ht2 x hs⟩
    · exact h.done i x (by omega) hx t ht
theorem nodup_len {Q : List Int} (h : Q.Nodup) {n : Nat} (hr : ∀ x ∈ Q, 0 ≤ x ∧ x < n) : Q.length ≤ n := by
  refine Classical.byContradiction fun hn => ?_
  have hg : ∀ j, j ≤ n → ∃ x, Q[j]? = some x ∧ Q.getD j 0 = x := fun j hj => ⟨Q[j]'(by omega), List.getElem?_eq_getElem _, by rw [List.getD_eq_getElem?_getD, List.getElem?_eq_getElem (by omega)]; rfl⟩
  obtain ⟨p, q, h1, h2, h3⟩ := pigeon n (fun j => (Q.getD j 0).toNat) (fun j hj => by
    obtain ⟨x, a, b⟩ := hg j hj
    have := hr x (List.mem_of_getElem? a)
    show (Q.getD j 0).toNat < n
    rw [b]; omega)
  obtain ⟨x, a, b⟩ := hg p (by omega)
  obtain ⟨y, c, d⟩ := hg q h2
  have hx := hr x (List.mem_of_getElem? a)
  have hy := hr y (List.mem_of_getElem? c)
  have h3 : (Q.getD p 0).toNat = (Q.getD q 0).toNat := h3
  rw [b, d] at h3
  have e : x = y := by omega
  rw [e] at a
  have hp := (List.getElem?_eq_some_iff.1 a)
  have hq := (List.getElem?_eq_some_iff.1 c)
  have := (List.nodup_iff_pairwise_ne.1 h)
  rw [List.pairwise_iff_getElem] at this
  exact this p q hp.1 hq.1 h1 (hp.2.trans hq.2.symm)
theorem bfs_len {l : L} (hf : l.fit) {f : Int} {a : Nat} {Q : List Int} {D : Int → Int} (h : Bfs l f a Q D) : Q.length ≤ l.n := nodup_len h.nod (fun x hx => by
  have := h.rng x hx
  have := hf.1
  unfold L.n
  omega)
theorem bfs_down {l : L} {f : Int} {a : Nat} {Q : List Int} {D : Int → Int} (h : Bfs l f a Q D) : ∀ (m : Nat) (t : Int), t ∈ Q → (m : Int) ≤ D t → ∃ s ∈ Q, D s = D t - m
  | 0, t, ht, hm => ⟨t, ht, by omega⟩
  | m + 1, t, ht, hm => by
    obtain ⟨s, a, b⟩ := bfs_down h m t ht (by omega)
    obtain ⟨u, h1, _, h2⟩ := h.back s a (by omega)
    exact ⟨u, h1, by omega⟩
theorem bfs_lt {l : L} {f : Int} {a : Nat} {Q : List Int} {D : Int → Int} (h : Bfs l f a Q D) {t : Int} (ht : t ∈ Q) : D t < Q.length := by
  refine Classical.byContradiction fun hn => ?_
  have key : ∀ j : Nat, ∃ i : Nat, j ≤ Q.length → i < Q.length ∧ ∃ x, Q[i]? = some x ∧ D x = j := fun j => by
    by_cases hj : j ≤ Q.length
    · obtain ⟨s, a, c⟩ := bfs_down h (D t - j).toNat t ht (by omega)
      obtain ⟨i, hi⟩ := List.mem_iff_getElem?.1 a
      exact ⟨i, fun _ => ⟨(List.getElem?_eq_some_iff.1 hi).1, s, hi, by omega⟩⟩
    · exact ⟨0, fun h => absurd h hj⟩
  obtain ⟨p, q, h1, h2, h3⟩ := pigeon Q.length (fun j => (key j).choose) (fun j hj => ((key j).choose_spec hj).1)
  obtain ⟨x, a1, a2⟩ := ((key p).choose_spec (by omega)).2
  obtain ⟨y, b1, b2⟩ := ((key q).choose_spec h2).2
  have h3 : (key p).choose = (key q).choose := h3
  rw [h3] at a1
  have := Option.some.inj (a1.symm.trans b1)
  subst this
  omega
theorem bfs_end {l : L} {f : Int} {Q : List Int} {D : Int → Int} (h : Bfs l f Q.length Q D) : Dst l f fun t => if t ∈ Q then D t else -1 := by
  have hfQ := List.mem_of_getElem? h.q0
  have y : ∀ x ∈ Q, (if x ∈ Q then D x else -1) = D x := fun x hx => if_pos hx
  refine ⟨?_, fun t _ _ e => ?_, fun t _ _ => ?_, fun s t hl s0 => ?_, fun t _ _ hp => ?_⟩
  · show (if f ∈ Q then D f else -1) = 0
    rw [y f hfQ]; exact h.zero
  · have e : (if t ∈ Q then D t else -1) = 0 := e
    split at e
    · rename_i ht
      exact Classical.byContradiction fun hne => by have := h.pos t ht hne; omega
    · omega
  · show -1 ≤ (if t ∈ Q then D t else -1)
    split
    · rename_i ht; have := h.nn ht; omega
    · omega
  · have s0 : 0 ≤ (if s ∈ Q then D s else -1) := s0
    have hs : s ∈ Q := by
      refine Classical.byContradiction fun hs => ?_
      rw [if_neg hs] at s0
      omega
    obtain ⟨i, hi⟩ := List.mem_iff_getElem?.1 hs
    obtain ⟨h1, h2⟩ := h.done i s (List.getElem?_eq_some_iff.1 hi).1 hi t hl
    show 0 ≤ (if t ∈ Q then D t else -1) ∧ (if t ∈ Q then D t else -1) ≤ (if s ∈ Q then D s else -1) + 1
    rw [y s hs, y t h1]
    exact ⟨h.nn h1, h2⟩
  · have hp : 0 < (if t ∈ Q then D t else -1) := hp
    have ht : t ∈ Q := by
      refine Classical.byContradiction fun ht => ?_
      rw [if_neg ht] at hp
      omega
    rw [y t ht] at hp
    obtain ⟨s, h1, h2, h3⟩ := h.back t ht hp
    refine ⟨s, h2, ?_⟩
    show (if s ∈ Q then D s else -1) = (if t ∈ Q then D t else -1) - 1
    rw [y s h1, y t ht]
    exact h3
/-- The queue at its end. -/
theorem bfs_dst {l : L} (hf : l.fit) {f : Int} (h0 : 0 ≤ f) (h1 : f < l.segs) {Q : List Int} {D : Int → Int} (h : Bfs l f Q.length Q D) : (∀ x ∈ Q, D x = l.dst f x) ∧ ∀ x, x ∈ Q ↔ (0 ≤ x ∧ x < l.segs ∧ 0 ≤ l.dst f x) := by
  have E := bfs_end h
  have a : ∀ x ∈ Q, D x = l.dst f x := fun x hx => by
    have hr := h.rng x hx
    rw [← dst_eq hf h0 h1 E hr.1 hr.2, if_pos hx]
  refine ⟨a, fun x => ⟨fun hx => ?_, fun ⟨x0, x1, x2⟩ => ?_⟩⟩
  · have hr := h.rng x hx
    exact ⟨hr.1, hr.2, by rw [← a x hx]; exact h.nn hx⟩
  · refine Classical.byContradiction fun hx => ?_
    have := dst_eq hf h0 h1 E x0 x1
    rw [if_neg hx] at this
    omega
end Go.Proofs.Ytgcmklliafcffaa.LanP
