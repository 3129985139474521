/-
  Plans as they lie in memory: rows of links, of bridges, of stations, of pairs.
-/
import Derived.Test.YtgcmklliafcffaaLanA
import Derived.Test.YtgcmklliafcffaaInts
import Derived.Test.YtgcmklliafcffaaBools
import Derived.Test.YtgcmklliafcffaaBx
import Derived.Deep.CutRange
namespace Go.Proofs.Ytgcmklliafcffaa.LanP
open Go.RowKit Go.Sort Go.Proofs.Ytgcmklliafcffaa.SliceP Go.Proofs.Ytgcmklliafcffaa.BoxP
open Go.Proofs.Ytgcmklliafcffaa.IntP (RowI SlI OwnI)
open Go.Proofs.Ytgcmklliafcffaa.BoolP (RowB SlB OwnB)
set_option linter.unusedVariables false
set_option maxRecDepth 100000
theorem bt {w a b : World} (h1 : Below w.heap.size w a) (h2 : Below a.heap.size a b) : Below w.heap.size w b := h1.trans (h2.mono h1.size)
abbrev kc (x : Lk) : List Value := [.int .i64 x.seg, .int .i64 x.cost, .bool x.up]
abbrev hc (x : Hs) : List Value := [.int .i64 x.1, .int .i64 x.2]
abbrev kv (x : Lk) : Value := .agg #[.int .i64 x.seg, .int .i64 x.cost, .bool x.up]
abbrev hv (x : Hs) : Value := .agg #[.int .i64 x.1, .int .i64 x.2]
theorem elK : ElemT Try.prog 58 57 3 := ElemT.mk' (z := .agg #[.int .i64 0, .int .i64 0, .bool false]) (bytes := 24) Try.underlying58 (by kernel_rfl) (by decide) rfl (by decide)
theorem elH : ElemT Try.prog 23 82 2 := ElemT.mk' (z := .agg #[.int .i64 0, .int .i64 0]) (bytes := 16) Try.underlying23 (by kernel_rfl) (by decide) rfl (by decide)
theorem elE : ElemT Try.prog 53 33 2 := ElemT.mk' (z := .agg #[.int .i64 0, .int .i64 0]) (bytes := 16) Try.underlying53 (by kernel_rfl) (by decide) rfl (by decide)
theorem elP : ElemT Try.prog 22 60 2 := ElemT.mk' (z := .agg #[.int .i64 0, .slice none 0 0]) (bytes := 32) Try.underlying22 (by kernel_rfl) (by decide) rfl (by decide)
theorem wholeK (l : List Lk) : Whole 3 (l.map kc) := fun cs hc => by
  obtain ⟨x, _, rfl⟩ := List.mem_map.1 hc
  exact ⟨rfl, fun u hu => by simp at hu; rcases hu with rfl | rfl | rfl <;> rfl⟩
theorem wholeH (l : List Hs) : Whole 2 (l.map hc) := fun cs hc => by
  obtain ⟨x, _, rfl⟩ := List.mem_map.1 hc
  exact ⟨rfl, fun u hu => by simp at hu; rcases hu with rfl | rfl <;> rfl⟩
/-- A row that is read. -/
structure Row {α : Type} (g : α → List Value) (sz : Nat) (w : World) (A : Option Addr) (n c : Nat) (l : List α) : Prop where
  len : n = l.length
  sl : Sl w sz A (l.map g)
  cap : n ≤ c
  nil : A = none → c = 0
  mx : c ≤ 9223372036854775807
section
variable {α : Type} {g : α → List Value} {sz : Nat} {w w' : World} {A : Option Addr} {n c : Nat} {l : List α}
theorem Row.below (h : Row g sz w A n c l) (hb : Below w.heap.size w w') : Row g sz w' A n c l := ⟨h.len, Sl.below h.sl hb, h.cap, h.nil, h.mx⟩
theorem Row.zero (w : World) : Row g sz w none 0 0 [] := ⟨rfl, Sl.nil, Nat.le_refl _, fun _ => rfl, by omega⟩
theorem Row.take (h : Row g sz w A n c l) (k : Nat) : Row g sz w A (l.take k).length c (l.take k) := by
  refine ⟨rfl, ?_, ?_, h.nil, h.mx⟩
  · have := Sl.take h.sl k
    rwa [← List.map_take] at this
  · have := h.cap; have := h.len; rw [List.length_take]; omega
theorem Row.own {B : Nat} {e : TypeId} (h : Own w B e sz (.slice A n c) (l.map g)) (h0 : 0 < sz) : Row g sz w A n c l := by
  obtain ⟨A', c', hv, h1, hm, hA⟩ := h.form
  have hsl := h.sl h0
  injection hv with e1 e2 e3
  subst e1; subst e3
  rw [List.length_map] at e2 h1
  refine ⟨e2, hsl, by omega, fun hn => ?_, by unfold maxLen at hm; omega⟩
  rcases hA with ⟨_, _, h0⟩ | ⟨g, h1, _⟩
  · exact h0
  · rw [hn] at h1; cases h1
end
section
variable {w w' : World} {A : Option Addr} {n c : Nat}
theorem Row.kat {l : List Lk} (h : Row kc 3 w A n c l) {k : Nat} {x : Lk} (hk : l[k]? = some x) : ∃ b o, A = some ⟨b, o, none⟩ ∧ b < w.heap.size ∧
    w.cell? ⟨b, o + k * 3, none⟩ = some (.int .i64 x.seg) ∧ w.cell? ⟨b, o + k * 3 + 1, none⟩ = some (.int .i64 x.cost) ∧ w.cell? ⟨b, o + k * 3 + 2, none⟩ = some (.bool x.up) := by
  obtain ⟨b, o, rfl, hb, hx⟩ := Sl.at_ h.sl (k := k) (cs := kc x) (by rw [List.getElem?_map, hk]; rfl)
  exact ⟨b, o, rfl, hb, hx 0 _ rfl, hx 1 _ rfl, hx 2 _ rfl⟩
theorem Row.hat {l : List Hs} (h : Row hc 2 w A n c l) {k : Nat} {x : Hs} (hk : l[k]? = some x) : ∃ b o, A = some ⟨b, o, none⟩ ∧ b < w.heap.size ∧
    w.cell? ⟨b, o + k * 2, none⟩ = some (.int .i64 x.1) ∧ w.cell? ⟨b, o + k * 2 + 1, none⟩ = some (.int .i64 x.2) := by
  obtain ⟨b, o, rfl, hb, hx⟩ := Sl.at_ h.sl (k := k) (cs := hc x) (by rw [List.getElem?_map, hk]; rfl)
  exact ⟨b, o, rfl, hb, hx 0 _ rfl, hx 1 _ rfl⟩
end
/-- A bridge, and where its ports lie. -/
structure PP where
  p : P
  A : Option Addr
  c : Nat
def PP.cells (x : PP) : List Value := [.int .i64 x.p.id, .slice x.A x.p.ports.length x.c]
def PP.in_ (w : World) (x : PP) : Prop := Row kc 3 w x.A x.p.ports.length x.c x.p.ports
theorem PP.in_.below {w w' : World} {x : PP} (h : x.in_ w) (hb : Below w.heap.size w w') : x.in_ w' := Row.below h hb
theorem wholeP (l : List PP) : Whole 2 (l.map PP.cells) := fun cs hc => by
  obtain ⟨x, _, rfl⟩ := List.mem_map.1 hc
  exact ⟨rfl, fun u hu => by simp [PP.cells] at hu; rcases hu with rfl | rfl <;> rfl⟩
structure RowP (w : World) (A : Option Addr) (n c : Nat) (l : List P) : Prop where
  len : n = l.length
  cap : n ≤ c
  nil : A = none → c = 0
  mx : c ≤ 9223372036854775807
  ex : ∃ ps : List PP, l = ps.map PP.p ∧ Sl w 2 A (ps.map PP.cells) ∧ ∀ x ∈ ps, x.in_ w
section
variable {w w' : World} {A : Option Addr} {n c : Nat} {l : List P}
theorem RowP.below (h : RowP w A n c l) (hb : Below w.heap.size w w') : RowP w' A n c l := ⟨h.len, h.cap, h.nil, h.mx, by
  obtain ⟨ps, e, hs, hi⟩ := h.ex
  exact ⟨ps, e, Sl.below hs hb, fun x hx => (hi x hx).below hb⟩⟩
theorem RowP.zero (w : World) : RowP w none 0 0 [] := ⟨rfl, Nat.le_refl _, fun _ => rfl, by omega, [], rfl, Sl.nil, fun x hx => by cases hx⟩
theorem RowP.at_ (h : RowP w A n c l) {k : Nat} {p : P} (hk : l[k]? = some p) : ∃ b o A' c', A = some ⟨b, o, none⟩ ∧ b < w.heap.size ∧
    w.cell? ⟨b, o + k * 2, none⟩ = some (.int .i64 p.id) ∧ w.cell? ⟨b, o + k * 2 + 1, none⟩ = some (.slice A' p.ports.length c') ∧ Row kc 3 w A' p.ports.length c' p.ports := by
  obtain ⟨ps, rfl, hs, hi⟩ := h.ex
  rw [List.getElem?_map] at hk
  obtain ⟨x, hx, rfl⟩ := Option.map_eq_some_iff.1 hk
  obtain ⟨b, o, rfl, hb, hc⟩ := Sl.at_ hs (k := k) (cs := x.cells) (by rw [List.getElem?_map, hx]; rfl)
  exact ⟨b, o, x.A, x.c, rfl, hb, hc 0 _ rfl, hc 1 _ rfl, hi x (List.mem_of_getElem? hx)⟩
theorem RowP.take (h : RowP w A n c l) (k : Nat) : RowP w A (l.take k).length c (l.take k) := by
  refine ⟨rfl, ?_, h.nil, h.mx, ?_⟩
  · have := h.cap; have := h.len; rw [List.length_take]; omega
  · obtain ⟨ps, rfl, hs, hi⟩ := h.ex
    refine ⟨ps.take k, by rw [List.map_take], ?_, fun x hx => hi x (List.mem_of_mem_take hx)⟩
    have := Sl.take hs k
    rwa [← List.map_take] at this
end
/-- A plan by value, and its cells. -/
abbrev lc (l : L) (A : Option Addr) (c : Nat) (B : Option Addr) (d : Nat) : Array Value := #[.int .i64 l.segs, .slice A l.plans.length c, .slice B l.hosts.length d]
abbrev lv (l : L) (A : Option Addr) (c : Nat) (B : Option Addr) (d : Nat) : Value := .agg (lc l A c B d)
structure LanR (w : World) (l : L) (A : Option Addr) (c : Nat) (B : Option Addr) (d : Nat) : Prop where
  plans : RowP w A l.plans.length c l.plans
  hosts : Row hc 2 w B l.hosts.length d l.hosts
theorem LanR.below {w w' : World} {l : L} {A : Option Addr} {c : Nat} {B : Option Addr} {d : Nat} (h : LanR w l A c B d) (hb : Below w.heap.size w w') : LanR w' l A c B d := ⟨h.plans.below hb, h.hosts.below hb⟩
structure Small (l : L) : Prop where
  plans : l.plans.length ≤ 8
  ports : ∀ p ∈ l.plans, p.ports.length ≤ 10
  hosts : l.hosts.length ≤ 12
/-- A box with a plan. -/
theorem new3 {l : L} {A : Option Addr} {c : Nat} {B : Option Addr} {d : Nat} (w : World) (h : LanR w l A c B d) : ∃ W, W = w.alloc (.cells (lc l A c B d) 25) ∧ Bx W w.heap.size 25 (lc l A c B d) ∧ LanR W l A c B d ∧ Below w.heap.size w W := by
  refine ⟨_, rfl, Bx.new _ _ _ rfl, ?_, (Below.refl _ _).alloc (Nat.le_refl _) _⟩
  exact h.below ((Below.refl _ _).alloc (Nat.le_refl _) _)
theorem bx_sl {w : World} {b size : Nat} {T : TypeId} {vals : Array Value} {xs : List (List Value)} (h : Bx w b T vals) (hv : vals.toList = xs.flatten) (hl : ∀ c ∈ xs, c.length = size) : Sl w size (some ⟨b, 0, none⟩) xs := fun _ => ⟨b, 0, rfl, h.lt, fun k cs hk j v hj => by
  have := SliceP.getElem?_flatten xs size k j cs v hl hk hj
  rw [← hv] at this
  rw [Nat.zero_add]
  exact h.c (by simpa using this)⟩
def True1 (w : World) (e : Ending) (w' : World) : Prop := e = .returned (.bool true) ∧ Below w.heap.size w w'
end Go.Proofs.Ytgcmklliafcffaa.LanP
