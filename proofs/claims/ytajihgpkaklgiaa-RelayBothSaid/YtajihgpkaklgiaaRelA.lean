/-
  Where a frame goes on, plainly; rows of ports' states.
-/
import Derived.Test.YtajihgpkaklgiaaLruA
import Derived.Deep.CutRange
import Derived.Test.YtajihgpkaklgiaaBx
namespace Go.Proofs.Ytajihgpkaklgiaa.RelP
open Go.RowKit Go.Sort Go.Proofs.Ytajihgpkaklgiaa.SliceP Go.Proofs.Ytajihgpkaklgiaa.BoxP
open Go.Proofs.Ytajihgpkaklgiaa.IntP (RowI SlI OwnI)
open Go.Proofs.Ytajihgpkaklgiaa.LruP (hasI without ref_has_is ref_without_any)
set_option linter.unusedVariables false
set_option maxRecDepth 100000
abbrev St : Type := Int × Int
abbrev sc (x : St) : List Value := [.int .i64 x.1, .int .i64 x.2]
abbrev SlP (w : World) (A : Option Addr) (l : List St) : Prop := Sl w 2 A (l.map sc)
abbrev OwnP (w : World) (B : Nat) (v : Value) (l : List St) : Prop := Own w B 36 2 v (l.map sc)
theorem elP : ElemT Try.prog 22 36 2 := ElemT.mk' (z := .agg #[.int .i64 0, .int .i64 0]) (bytes := 16) Try.underlying22 (by kernel_rfl) (by decide) rfl (by decide)
theorem wholeP (l : List St) : Whole 2 (l.map sc) := fun cs hc => by
  obtain ⟨x, _, rfl⟩ := List.mem_map.1 hc
  exact ⟨rfl, fun u hu => by simp at hu; rcases hu with rfl | rfl <;> rfl⟩
theorem SlP.at_ {w : World} {A : Option Addr} {l : List St} (h : SlP w A l) {k : Nat} {x : St} (hk : l[k]? = some x) : ∃ b o, A = some ⟨b, o, none⟩ ∧ b < w.heap.size ∧
    w.cell? ⟨b, o + k * 2, none⟩ = some (.int .i64 x.1) ∧ w.cell? ⟨b, o + k * 2 + 1, none⟩ = some (.int .i64 x.2) := by
  obtain ⟨b, o, rfl, hb, hx⟩ := Sl.at_ h (k := k) (cs := sc x) (by rw [List.getElem?_map, hk]; rfl)
  exact ⟨b, o, rfl, hb, by simpa using hx 0 _ rfl, hx 1 _ rfl⟩
structure RowP (w : World) (A : Option Addr) (n c : Nat) (l : List St) : Prop where
  len : n = l.length
  sl : SlP w A l
  cap : n ≤ c
  nil : A = none → c = 0
theorem RowP.below {w w' : World} {A : Option Addr} {n c : Nat} {l : List St} (h : RowP w A n c l) (hb : Below w.heap.size w w') : RowP w' A n c l := ⟨h.len, Sl.below h.sl hb, h.cap, h.nil⟩
theorem row_grown {w w' : World} {A : Option Addr} {n c : Nat} {l : List Int} {row : Option Nat} (h : RowI w A n c l) (hg : w.grownBy w' row) (hne : ∀ a, A = some a → a.block < w.heap.size → some a.block ≠ row) : RowI w' A n c l :=
  ⟨h.len, fun hn => by
    obtain ⟨g, o, hA, hlt, hx⟩ := h.sl hn
    have hne' := hne _ hA hlt
    exact ⟨g, o, hA, Nat.lt_of_lt_of_le hlt hg.size, fun k cs hk j v hj => by rw [← hx k cs hk j v hj]; unfold World.cell?; rw [hg.block g hlt hne']⟩, h.cap, h.nil⟩
theorem own_far {w : World} {B : Nat} {e : TypeId} {sz : Nat} {A : Option Addr} {n c : Nat} {xs : List (List Value)} (h : Own w B e sz (.slice A n c) xs) : ∀ a, A = some a → B ≤ a.block := fun a ha => by
  obtain ⟨A', c', hv, _, _, hA⟩ := h.form
  injection hv with e1 e2 e3
  subst e1
  rcases hA with ⟨h1, _⟩ | ⟨g, h1, h2, _⟩
  · rw [h1] at ha; cases ha
  · rw [h1] at ha; obtain rfl := Option.some.inj ha; exact h2
theorem bt {w a b : World} (h1 : Below w.heap.size w a) (h2 : Below a.heap.size a b) : Below w.heap.size w b := h1.trans (h2.mono h1.size)
def True1 (w : World) (e : Ending) (w' : World) : Prop := e = .returned (.bool true) ∧ Below w.heap.size w w'
theorem bx_sl {w : World} {b size : Nat} {T : TypeId} {vals : Array Value} {xs : List (List Value)} (h : Bx w b T vals) (hv : vals.toList = xs.flatten) (hl : ∀ c ∈ xs, c.length = size) : Sl w size (some ⟨b, 0, none⟩) xs := fun _ => ⟨b, 0, rfl, h.lt, fun k cs hk j v hj => by
  have := SliceP.getElem?_flatten xs size k j cs v hl hk hj
  rw [← hv] at this
  rw [Nat.zero_add]
  exact h.c (by simpa using this)⟩
def st (l : List St) (p : Nat) : St := l.getD p (0, 0)
theorem st_at {l : List St} {p : Nat} (h : p < l.length) : l[p]? = some (st l p) := by unfold st; rw [List.getD_eq_getElem?_getD, List.getElem?_eq_getElem h]; rfl
def stB (x : St) : Bool := decide (0 ≤ x.1) && decide (x.1 ≤ 3)
def why (l : List St) (p : Int) : Int := if l.all stB = true then (if l.length < 1 ∨ 8 < l.length then 1 else if p < 0 ∨ (l.length : Int) ≤ p then 3 else 0) else 1
def fl (l : List St) (p k : Nat) : List Int := if (st l p).1 = 3 ∧ (st l k).1 = 3 ∧ k ≠ p then [(k : Int)] else []
def flood (l : List St) (p : Nat) : List Int := (List.range l.length).flatMap (fl l p)
def badC (c o : Int) : Bool := decide (c < 0) || (decide (2 < c) || (decide (o < -1) || decide (7 < o)))
def egress (l : List St) (p : Nat) (c o : Int) : List Int := if c = 2 then [] else if c = 1 ∨ o < 0 then flood l p else (flood l p).filter fun x => x == o
theorem flat_succ {α : Type} (f : Nat → List α) (k : Nat) : (List.range (k + 1)).flatMap f = (List.range k).flatMap f ++ f k := by rw [List.range_succ, List.flatMap_append]; simp
theorem fl_len (l : List St) (p : Nat) : ∀ k, ((List.range k).flatMap (fl l p)).length ≤ k
  | 0 => by simp
  | k + 1 => by
    rw [flat_succ, List.length_append]
    have := fl_len l p k
    have h2 : (fl l p k).length ≤ 1 := by unfold fl; split <;> simp
    omega
theorem flood_len (l : List St) (p : Nat) : (flood l p).length ≤ l.length := fl_len _ _ _
theorem egress_len (l : List St) (p : Nat) (c o : Int) : (egress l p c o).length ≤ l.length := by
  unfold egress
  split
  · simp
  · split
    · exact flood_len _ _
    · exact Nat.le_trans (List.length_filter_le _ _) (flood_len _ _)
theorem why_zero {l : List St} {p : Int} (h : why l p = 0) : l.all stB = true ∧ 1 ≤ l.length ∧ l.length ≤ 8 ∧ 0 ≤ p ∧ p < l.length := by
  unfold why at h
  by_cases h1 : l.all stB = true
  · rw [if_pos h1] at h
    by_cases h2 : l.length < 1 ∨ 8 < l.length
    · rw [if_pos h2] at h; omega
    · rw [if_neg h2] at h
      by_cases h3 : p < 0 ∨ (l.length : Int) ≤ p
      · rw [if_pos h3] at h; omega
      · exact ⟨h1, by omega, by omega, by omega, by omega⟩
  · rw [if_neg h1] at h; omega
theorem why_one {l : List St} {p : Int} (h : why l p ≠ 0) : why l p = 1 ∨ why l p = 3 := by
  unfold why at h ⊢
  split
  · split
    · exact .inl rfl
    · split
      · exact .inr rfl
      · rename_i h1 h2 h3; rw [if_pos h1, if_neg h2, if_neg h3] at h; exact absurd rfl h
  · exact .inl rfl
theorem mem_fl {l : List St} {p k : Nat} {x : Int} : x ∈ fl l p k ↔ x = k ∧ (st l p).1 = 3 ∧ (st l k).1 = 3 ∧ k ≠ p := by
  unfold fl
  split
  · rename_i h; simp [h]
  · rename_i h; simp only [List.not_mem_nil, false_iff]; rintro ⟨_, a, b, c⟩; exact h ⟨a, b, c⟩
theorem mem_flood {l : List St} {p : Nat} {x : Int} : x ∈ flood l p ↔ ∃ k : Nat, k < l.length ∧ x = k ∧ (st l p).1 = 3 ∧ (st l k).1 = 3 ∧ k ≠ p := by
  unfold flood
  rw [List.mem_flatMap]
  constructor
  · rintro ⟨k, hk, h⟩; exact ⟨k, List.mem_range.1 hk, mem_fl.1 h⟩
  · rintro ⟨k, hk, h⟩; exact ⟨k, List.mem_range.2 hk, mem_fl.2 h⟩
theorem flat_mem {l : List St} {p n : Nat} {x : Int} (h : x ∈ (List.range n).flatMap (fl l p)) : x < n := by
  rw [List.mem_flatMap] at h
  obtain ⟨k, hk, h⟩ := h
  have := (mem_fl.1 h).1
  have := List.mem_range.1 hk
  omega
theorem flat_rise (l : List St) (p : Nat) : ∀ n, ((List.range n).flatMap (fl l p)).Pairwise (· < ·)
  | 0 => by simp
  | n + 1 => by
    rw [flat_succ, List.pairwise_append]
    refine ⟨flat_rise l p n, ?_, fun a ha b hb => ?_⟩
    · unfold fl; split <;> simp
    · have := flat_mem ha
      have := (mem_fl.1 hb).1
      omega
theorem flood_rise (l : List St) (p : Nat) : (flood l p).Pairwise (· < ·) := flat_rise _ _ _
theorem egress_sub {l : List St} {p : Nat} {c o : Int} : (egress l p c o).Sublist (flood l p) := by
  unfold egress
  split
  · exact List.nil_sublist _
  · split
    · exact List.Sublist.refl _
    · exact List.filter_sublist
theorem egress_rise (l : List St) (p : Nat) (c o : Int) : (egress l p c o).Pairwise (· < ·) := (flood_rise l p).sublist egress_sub
theorem egress_at {l : List St} {p : Nat} {c o : Int} {i : Nat} {x : Int} (h : (egress l p c o)[i]? = some x) : ∃ k : Nat, k < l.length ∧ x = k ∧ (st l p).1 = 3 ∧ (st l k).1 = 3 ∧ k ≠ p ∧ hasI (flood l p) x = true := by
  have hm := egress_sub.mem (List.mem_of_getElem? h)
  obtain ⟨k, h1, h2, h3, h4, h5⟩ := mem_flood.1 hm
  exact ⟨k, h1, h2, h3, h4, h5, LruP.has_true.2 hm⟩
theorem egress_lt {l : List St} {p : Nat} {c o : Int} {i : Nat} {x y : Int} (h : (egress l p c o)[i]? = some x) (k : (egress l p c o)[i + 1]? = some y) : x < y := by
  have hp := egress_rise l p c o
  rw [List.pairwise_iff_getElem] at hp
  obtain ⟨h1, e1⟩ := List.getElem?_eq_some_iff.1 h
  obtain ⟨h2, e2⟩ := List.getElem?_eq_some_iff.1 k
  have := hp i (i + 1) h1 h2 (by omega)
  rw [e1, e2] at this; exact this
/-- A unicast's. -/
theorem filter_one {l : List Int} (h : l.Pairwise (· < ·)) (o : Int) : (l.filter fun x => x == o) = if hasI l o = true then [o] else [] := by
  induction l with
  | nil => rfl
  | cons x r ih =>
    rw [List.pairwise_cons] at h
    have ihr := ih h.2
    rw [List.filter_cons]
    by_cases hx : x = o
    · subst hx
      have hno : hasI r x = false := LruP.has_false.2 fun hm => by have := h.1 x hm; omega
      rw [hno] at ihr
      have : hasI (x :: r) x = true := LruP.has_true.2 (by simp)
      rw [this, ihr]; simp
    · have hb : (x == o) = false := by simpa using hx
      rw [hb]
      have : hasI (x :: r) o = hasI r o := by unfold hasI; rw [List.any_cons, hb]; rfl
      rw [this]; simpa using ihr
theorem egress_one {l : List St} {p : Nat} {o : Int} (ho : ¬ o < 0) : egress l p 0 o = if hasI (flood l p) o = true then [o] else [] := by
  unfold egress
  rw [if_neg (by decide), if_neg (by omega)]
  exact filter_one (flood_rise l p) o
/-- There as far as back. -/
theorem has_flood {l : List St} {a b : Nat} (ha : a < l.length) (hb : b < l.length) : hasI (flood l a) b = hasI (flood l b) a := by
  have key : ∀ a b : Nat, a < l.length → b < l.length → hasI (flood l a) b = true → hasI (flood l b) a = true := fun a b ha hb h => by
    obtain ⟨k, h1, h2, h3, h4, h5⟩ := mem_flood.1 (LruP.has_true.1 h)
    obtain rfl : b = k := by omega
    exact LruP.has_true.2 (mem_flood.2 ⟨a, ha, rfl, h4, h3, fun e => h5 e.symm⟩)
  cases h1 : hasI (flood l a) b with
  | true => exact (key a b ha hb h1).symm
  | false =>
    cases h2 : hasI (flood l b) a with
    | false => rfl
    | true => rw [key b a hb ha h2] at h1; cases h1
theorem flood_self (l : List St) (a : Nat) : hasI (flood l a) a = false := LruP.has_false.2 fun h => by
  obtain ⟨k, _, h2, _, _, h5⟩ := mem_flood.1 h
  exact h5 (by omega)
theorem st_set {l : List St} {b k : Nat} (hb : b < l.length) : st (l.set b (0, 0)) k = if k = b then (0, 0) else st l k := by
  unfold st
  rw [List.getD_eq_getElem?_getD, List.getD_eq_getElem?_getD]
  by_cases h : k = b
  · subst h; rw [if_pos rfl, List.getElem?_set_self hb]; rfl
  · rw [if_neg h, List.getElem?_set_ne (by omega)]
theorem flood_less {l : List St} {a b : Nat} (ha : a ≠ b) (hb : b < l.length) : flood (l.set b (0, 0)) a = without (flood l a) b := by
  have hfl : ∀ k, fl (l.set b (0, 0)) a k = without (fl l a k) b := fun k => by
    unfold fl without
    rw [st_set hb, st_set hb, if_neg ha]
    by_cases hk : k = b
    · subst hk
      rw [if_pos rfl, if_neg (by simp)]
      split <;> simp
    · rw [if_neg hk]
      split
      · have : ((k : Int) != (b : Int)) = true := by simp; omega
        simp [this]
      · simp
  unfold flood
  rw [List.length_set]
  have : ∀ n, (List.range n).flatMap (fl (l.set b (0, 0)) a) = without ((List.range n).flatMap (fl l a)) b := fun n => by
    induction n with
    | zero => rfl
    | succ n ih => rw [flat_succ, flat_succ, ih, hfl]; unfold without; rw [List.filter_append]
  exact this _
theorem why_less {l : List St} {a : Int} {b : Nat} (h : why l a = 0) (hb : b < l.length) : why (l.set b (0, 0)) a = 0 := by
  obtain ⟨h1, h2, h3, h4, h5⟩ := why_zero h
  unfold why
  have : (l.set b (0, 0)).all stB = true := by
    rw [List.all_eq_true] at h1 ⊢
    intro x hx
    rcases List.mem_or_eq_of_mem_set hx with hx | rfl
    · exact h1 x hx
    · decide
  rw [if_pos this, List.length_set, if_neg (by omega), if_neg (by omega)]
end Go.Proofs.Ytajihgpkaklgiaa.RelP
