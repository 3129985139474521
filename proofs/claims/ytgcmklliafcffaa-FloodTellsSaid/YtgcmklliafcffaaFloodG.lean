/-
  Layer 17, plain facts for the laws: as far there as back, a flood is in one part, what a path is; Path's contract whatever it answers.
-/
import Derived.Test.YtgcmklliafcffaaFloodF
import Derived.BigRegion
namespace Go.Proofs.Ytgcmklliafcffaa.LanP
open Go.RowKit Go.Sort Go.Proofs.Ytgcmklliafcffaa.SliceP Go.Proofs.Ytgcmklliafcffaa.BoxP
open Go.Proofs.Ytgcmklliafcffaa.IntP (RowI SlI OwnI)
open Go.Proofs.Ytgcmklliafcffaa.BoolP (RowB SlB OwnB)
open Go.Proofs.Ytgcmklliafcffaa.MacP (arr_out Wrote wp_region_ends outM)
set_option linter.unusedVariables false
set_option maxRecDepth 100000
theorem tmod_lt17 (n m : Int) (h0 : 0 < m) : -m < n.tmod m ∧ n.tmod m < m := by
  have := Int.natAbs_tmod n m
  have h3 : (n.tmod m).natAbs < m.natAbs := by rw [this]; exact Nat.mod_lt _ (by omega)
  omega
theorem dst_self {l : L} (hf : l.fit) {f : Int} (f0 : 0 ≤ f) (f1 : f < l.segs) : l.dst f f = 0 := (dst_is hf f0 f1).zero
theorem dst_tri {l : L} (hf : l.fit) {a b : Int} (a0 : 0 ≤ a) (a1 : a < l.segs) (b0 : 0 ≤ b) (b1 : b < l.segs) (hab : 0 ≤ l.dst a b) : ∀ (k : Nat) (c : Int), 0 ≤ c → c < l.segs → l.dst b c = k → 0 ≤ l.dst a c ∧ l.dst a c ≤ l.dst a b + k
  | 0, c, c0, c1, h => by
    have := (dst_is hf b0 b1).only c c0 c1 h
    subst this
    omega
  | k + 1, c, c0, c1, h => by
    obtain ⟨s, h1, h2⟩ := (dst_is hf b0 b1).back c c0 c1 (by omega)
    have hs := (lnk_in hf h1).1
    have ih := dst_tri hf a0 a1 b0 b1 hab k s hs.1 hs.2 (by omega)
    have := (dst_is hf a0 a1).step s c h1 ih.1
    omega
theorem dst_back {l : L} (hf : l.fit) {f : Int} (f0 : 0 ≤ f) (f1 : f < l.segs) : ∀ (k : Nat) (t : Int), 0 ≤ t → t < l.segs → l.dst f t = k → 0 ≤ l.dst t f ∧ l.dst t f ≤ k
  | 0, t, t0, t1, h => by
    have := (dst_is hf f0 f1).only t t0 t1 h
    subst this
    omega
  | k + 1, t, t0, t1, h => by
    obtain ⟨s, h1, h2⟩ := (dst_is hf f0 f1).back t t0 t1 (by omega)
    have hs := (lnk_in hf h1).1
    have ih := dst_back hf f0 f1 k s hs.1 hs.2 (by omega)
    have hz := dst_self hf t0 t1
    have hst := (dst_is hf t0 t1).step t s (lnk_symm h1) (by omega)
    have := dst_tri hf t0 t1 hs.1 hs.2 hst.1 (l.dst s f).toNat f f0 f1 (by omega)
    omega
theorem dst_symm {l : L} (hf : l.fit) {a b : Int} (a0 : 0 ≤ a) (a1 : a < l.segs) (b0 : 0 ≤ b) (b1 : b < l.segs) : l.dst a b = l.dst b a := by
  have g1 := (dst_is hf a0 a1).ge b b0 b1
  have g2 := (dst_is hf b0 b1).ge a a0 a1
  by_cases h : 0 ≤ l.dst a b
  · have h1 := dst_back hf a0 a1 (l.dst a b).toNat b b0 b1 (by omega)
    have h2 := dst_back hf b0 b1 (l.dst b a).toNat a a0 a1 (by omega)
    omega
  · by_cases h2 : 0 ≤ l.dst b a
    · have h3 := dst_back hf b0 b1 (l.dst b a).toNat a a0 a1 (by omega)
      omega
    · omega
theorem op_lab (l : L) (O : List (List Bool)) {s t : Int} (h : lab (l.op O).pairs s = lab (l.op O).pairs t) : lab l.pairs s = lab l.pairs t := by
  have hu := lab_univ (lab l.pairs) (l.op O).pairs ((pairs_join (lab l.pairs)).2 fun p hp x hx y hy => by
    obtain ⟨b, hb, rfl⟩ := mem_op.1 hp
    exact lab_ups l _ (pl_mem hb) x (ups_opP hx) y (ups_opP hy))
  have h1 := hu s
  have h2 := hu t
  rw [h] at h1
  exact h1.symm.trans h2
theorem op_part {l : L} (O : List (List Bool)) {s x : Int} (h : x ∈ (l.op O).part s) : x ∈ l.part s := by
  obtain ⟨h1, h2⟩ := mem_part.1 h
  exact mem_part.2 ⟨h1, op_lab l O h2⟩
theorem part_dst {l : L} (hf : l.fit) {f : Int} (f0 : 0 ≤ f) (f1 : f < l.segs) {x : Int} : x ∈ l.part f ↔ 0 ≤ x ∧ x < l.segs ∧ 0 ≤ l.dst f x := by
  have hn : (l.n : Int) = l.segs := by have := hf.1; unfold L.n; omega
  rw [mem_part]
  constructor
  · rintro ⟨⟨a, b⟩, c⟩; exact ⟨a, by omega, (dst_lab hf f0 f1 (dst_is hf f0 f1) a (by omega)).2 c⟩
  · rintro ⟨a, b, c⟩; exact ⟨⟨a, by omega⟩, (dst_lab hf f0 f1 (dst_is hf f0 f1) a b).1 c⟩
/- What a path is. -/
def pathS (l : L) (f t : Int) : List Int := if l.dst f t < 0 then [] else pathR l f t
def pathE (l : L) (f t : Int) : Int := if l.dst f t < 0 then 4 else 0
theorem pathR_len {l : L} {f t : Int} {D : Nat} (hD : l.dst f t = D) : (pathR l f t).length = D + 1 := by unfold pathR; rw [List.length_reverse, pthTo_len, hD]; rfl
theorem pathR_at {l : L} {f t : Int} {D : Nat} (hD : l.dst f t = D) {k : Nat} (hk : k ≤ D) : (pathR l f t)[k]? = some (pthK l f t (D - k)) := by
  unfold pathR
  rw [hD, show (D : Int).toNat = D from rfl, List.getElem?_reverse (by rw [pthTo_len]; omega), pthTo_len]
  unfold pthTo
  rw [List.getElem?_map, show D + 1 - 1 - k = D - k by omega, List.getElem?_range (by omega)]; rfl
theorem path_step {l : L} (hf : l.fit) {f t : Int} (f0 : 0 ≤ f) (f1 : f < l.segs) (t0 : 0 ≤ t) (t1 : t < l.segs) {D : Nat} (hD : l.dst f t = D) {k : Nat} (hk : k ≤ D) : ∃ x : Nat, (pathR l f t)[k]? = some (x : Int) ∧ (x : Int) < l.segs ∧ l.dst f x = k := by
  obtain ⟨⟨a, b⟩, c⟩ := pth_is hf f0 f1 t0 t1 hD (D - k) (by omega)
  obtain ⟨x, hx⟩ := nat_of a b
  rw [hx] at b c
  exact ⟨x, by rw [pathR_at hD hk, hx], b, by omega⟩
theorem path_first {l : L} (hf : l.fit) {f t : Int} (f0 : 0 ≤ f) (f1 : f < l.segs) (t0 : 0 ≤ t) (t1 : t < l.segs) {D : Nat} (hD : l.dst f t = D) : (pathR l f t)[0]? = some f := by
  obtain ⟨⟨a, b⟩, c⟩ := pth_is hf f0 f1 t0 t1 hD D (Nat.le_refl _)
  rw [pathR_at hD (Nat.zero_le _), Nat.sub_zero, (dst_is hf f0 f1).only _ a b (by omega)]
theorem path_last {l : L} {f t : Int} {D : Nat} (hD : l.dst f t = D) : (pathR l f t)[D]? = some t := by
  rw [pathR_at hD (Nat.le_refl _), Nat.sub_self]; rfl
theorem whyO_in {l : L} {O : List (List Bool)} (h : (l.ok && rowsB l O) = true) {ss : List Int} (hs : ∀ x ∈ ss, 0 ≤ x ∧ x < l.segs) : whyO l O ss = 0 := by
  unfold whyO
  rw [if_pos h, if_neg]
  intro q
  obtain ⟨x, hx, hb⟩ := List.any_eq_true.1 q
  have := hs x hx
  unfold outB at hb
  simp only [Bool.or_eq_true, decide_eq_true_eq] at hb
  omega
theorem whyO_not {l : L} {O : List (List Bool)} (h : (l.ok && rowsB l O) = false) (ss : List Int) : whyO l O ss = 1 := by
  unfold whyO
  rw [if_neg (by rw [h]; simp)]
theorem whyO_out {l : L} {O : List (List Bool)} (h : (l.ok && rowsB l O) = true) {ss : List Int} {x : Int} (hx : x ∈ ss) (hn : ¬ (0 ≤ x ∧ x < l.segs)) : whyO l O ss = 3 := by
  unfold whyO
  rw [if_pos h, if_pos]
  refine List.any_eq_true.2 ⟨x, hx, ?_⟩
  unfold outB
  simp only [Bool.or_eq_true, decide_eq_true_eq]
  omega
set_option maxHeartbeats 1000000 in
theorem o_path_any {l : L} {O : List (List Bool)} {A : Option Addr} {c : Nat} {B : Option Addr} {d : Nat} {C : Option Addr} {e : Nat} {w : World} (hr : LanR w l A c B d) (hs : Small l) (hR : RowL bc w C O.length e O) (hO : O.length ≤ 1000) (hO2 : ∀ r ∈ O, r.length ≤ 1000) (s u : Int) (he : whyO l O [s, u] = 0) :
    Calls Try.prog 26 #[lv l A c B d, .slice C O.length e, .int .i64 s, .int .i64 u] w fun en w' => ∃ A' c', en = .returned (.tuple #[.slice A' (pathS (l.op O) s u).length c', .int .i64 (pathE (l.op O) s u)]) ∧ Row ic 1 w' A' (pathS (l.op O) s u).length c' (pathS (l.op O) s u) ∧ Below w.heap.size w w' := by
  unfold pathS pathE
  by_cases hd : (l.op O).dst s u < 0
  · obtain ⟨hok, _, hin⟩ := whyO_zero he
    have hu := hin u (by simp)
    have hs2 := hin s (by simp)
    have := (dst_is (ok_fit (op_ok O hok)) hs2.1 hs2.2).ge u hu.1 hu.2
    rw [if_pos hd, if_pos hd]
    exact (o_path_none hr hs hR hO hO2 s u he (by omega)).mono fun en w' ⟨h1, h2⟩ => ⟨none, 0, h1, Row.zero _, h2⟩
  · rw [if_neg hd, if_neg hd]
    exact o_path_ok hr hs hR hO hO2 s u he (by omega)
theorem o_has_b {A : Option Addr} {n c : Nat} {l : List Int} {w : World} (h : Row ic 1 w A n c l) (x : Int) {b : Bool} (hb : decide (x ∈ l) = b) (hl : l.length ≤ 1000) :
    Calls Try.prog 36 #[.slice A n c, .int .i64 x] w fun e w' => e = .returned (.bool b) ∧ Below w.heap.size w w' := by
  have hh : Go.Proofs.Ytgcmklliafcffaa.LruP.hasI l x = b := by
    rw [← hb]
    by_cases hx : x ∈ l
    · rw [decide_eq_true hx]; exact Go.Proofs.Ytgcmklliafcffaa.LruP.has_true.2 hx
    · rw [decide_eq_false hx]; exact Go.Proofs.Ytgcmklliafcffaa.LruP.has_false.2 hx
  exact (Go.Proofs.Ytgcmklliafcffaa.LruP.ref_has_is h.rowI x b hh (by omega)).mono fun e w' ⟨h1, h2⟩ => ⟨h1, by rw [← h2]; exact Below.refl _ _⟩
theorem o_in_b (s n : Int) {b : Bool} (hb : (decide (0 ≤ s) && decide (s < n)) = b) (w : World) : Calls Try.prog 28 #[.int .i64 s, .int .i64 n] w fun e w' => e = .returned (.bool b) ∧ Below w.heap.size w w' :=
  (o_in17 s n hb w).mono fun e w' ⟨h1, h2⟩ => ⟨h1, by rw [← h2]; exact Below.refl _ _⟩
end Go.Proofs.Ytgcmklliafcffaa.LanP
