/-
  Rows of rows; a plan with few of all.
-/
import Derived.Test.YtgcmklliafcffaaLanB
import Derived.Test.YtgcmklliafcffaaLanE
import Derived.Test.YtgcmklliafcffaaLanP
import Derived.Test.YtgcmklliafcffaaInts
namespace Go.Proofs.Ytgcmklliafcffaa.LanP
open Go.RowKit Go.Sort Go.Proofs.Ytgcmklliafcffaa.SliceP Go.Proofs.Ytgcmklliafcffaa.BoxP
open Go.Proofs.Ytgcmklliafcffaa.IntP (RowI SlI OwnI)
open Go.Proofs.Ytgcmklliafcffaa.BoolP (RowB SlB OwnB)
set_option linter.unusedVariables false
set_option maxRecDepth 100000
/-- A row, and where it lies. -/
structure RwP (α : Type) where
  l : List α
  A : Option Addr
  c : Nat
def RwP.cells {α : Type} (x : RwP α) : List Value := [.slice x.A x.l.length x.c]
theorem wholeR {α : Type} (l : List (RwP α)) : Whole 1 (l.map RwP.cells) := fun cs hc => by
  obtain ⟨x, _, rfl⟩ := List.mem_map.1 hc
  exact ⟨rfl, fun u hu => by simp [RwP.cells] at hu; subst hu; rfl⟩
theorem elI : ElemT Try.prog 43 3 1 := IntP.elI
theorem elRI : ElemT Try.prog 30 43 1 := ElemT.mk' (z := .slice none 0 0) (bytes := 24) Try.underlying30 (by kernel_rfl) (by decide) rfl (by decide)
theorem zv_int (w : World) : (zeroValue 3).run Try.prog w = .ok (.int .i64 0) w := by kernel_rfl
/-- Rows of rows. -/
structure RowL {α : Type} (g : α → List Value) (w : World) (A : Option Addr) (n c : Nat) (ls : List (List α)) : Prop where
  len : n = ls.length
  cap : n ≤ c
  nil : A = none → c = 0
  mx : c ≤ 9223372036854775807
  ex : ∃ rs : List (RwP α), ls = rs.map RwP.l ∧ Sl w 1 A (rs.map RwP.cells) ∧ ∀ x ∈ rs, Row g 1 w x.A x.l.length x.c x.l
theorem RowL.below {α : Type} {g : α → List Value} {w w' : World} {A : Option Addr} {n c : Nat} {ls : List (List α)} (h : RowL g w A n c ls) (hb : Below w.heap.size w w') : RowL g w' A n c ls := ⟨h.len, h.cap, h.nil, h.mx, by
  obtain ⟨rs, e, hs, hi⟩ := h.ex
  exact ⟨rs, e, Sl.below hs hb, fun x hx => (hi x hx).below hb⟩⟩
theorem RowL.at_ {α : Type} {g : α → List Value} {w : World} {A : Option Addr} {n c : Nat} {ls : List (List α)} (h : RowL g w A n c ls) {k : Nat} {r : List α} (hk : ls[k]? = some r) : ∃ b o A' c', A = some ⟨b, o, none⟩ ∧ b < w.heap.size ∧ w.cell? ⟨b, o + k, none⟩ = some (.slice A' r.length c') ∧ Row g 1 w A' r.length c' r := by
  obtain ⟨rs, rfl, hs, hi⟩ := h.ex
  rw [List.getElem?_map] at hk
  obtain ⟨x, hx, rfl⟩ := Option.map_eq_some_iff.1 hk
  obtain ⟨b, o, rfl, hb, hc⟩ := Sl.at_ hs (k := k) (cs := x.cells) (by rw [List.getElem?_map, hx]; rfl)
  refine ⟨b, o, x.A, x.c, rfl, hb, ?_, hi x (List.mem_of_getElem? hx)⟩
  have := hc 0 _ rfl
  rwa [Nat.mul_one, Nat.add_zero] at this
theorem RowL.new {α : Type} {g : α → List Value} {w : World} {B : Nat} {e : TypeId} {A : Option Addr} {n c : Nat} {rs : List (RwP α)} (h : Own w B e 1 (.slice A n c) (rs.map RwP.cells)) (hi : ∀ x ∈ rs, Row g 1 w x.A x.l.length x.c x.l) : RowL g w A n c (rs.map RwP.l) := by
  have r := Row.own (g := RwP.cells) h (by decide)
  exact ⟨by rw [List.length_map]; exact r.len, r.cap, r.nil, r.mx, rs, rfl, r.sl, hi⟩
theorem own_ne {w : World} {B B' : Nat} {e e' : TypeId} {sz sz' : Nat} {v v' : Value} {xs ys : List (List Value)} (h : Own w B e sz v xs) (h' : Own w B' e' sz' v' ys) (hne : e ≠ e') : ∀ k, v.ownBlock = some k → v'.ownBlock ≠ some k := fun k hk hk' => by
  rcases h.row.2 with ⟨h1, _⟩ | ⟨g, c, cur, h1, _, h2, _⟩
  · rw [h1] at hk; cases hk
  · rcases h'.row.2 with ⟨h3, _⟩ | ⟨g', c', cur', h3, _, h4, _⟩
    · rw [h3] at hk'; cases hk'
    · rw [h1] at hk
      rw [h3] at hk'
      have e1 : g = k := Option.some.inj hk
      have e2 : g' = k := Option.some.inj hk'
      rw [e1] at h2
      rw [e2, h2] at h4
      injection h4 with h4
      injection h4 with _ h4 _
      exact hne h4
def P.few (p : P) : P := ⟨p.id, p.ports.take 10⟩
def L.few (l : L) : L := ⟨l.segs, (l.plans.take 8).map P.few, l.hosts.take 12⟩
theorem few_small (l : L) : Small l.few := ⟨by unfold L.few; simp; omega, fun p hp => by
  unfold L.few at hp
  obtain ⟨q, _, rfl⟩ := List.mem_map.1 hp
  unfold P.few; simp; omega, by unfold L.few; simp; omega⟩
theorem few_succ {l : List P} {k : Nat} {x : P} (hx : l[k]? = some x) : (l.take (k + 1)).map P.few = (l.take k).map P.few ++ [x.few] := by rw [List.take_add_one, hx, List.map_append]; rfl
theorem RowP.new {w' : World} {B : Nat} {A : Option Addr} {n c : Nat} {L : List PP} (h : Own w' B 60 2 (.slice A n c) (L.map PP.cells)) (hi : ∀ x ∈ L, x.in_ w') : RowP w' A n c (L.map PP.p) := by
  have r := Row.own (g := PP.cells) h (by decide)
  exact ⟨by rw [List.length_map]; exact r.len, r.cap, r.nil, r.mx, L, rfl, r.sl, hi⟩
end Go.Proofs.Ytgcmklliafcffaa.LanP
