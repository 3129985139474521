/-
  A box: a block of its own, cell for cell.
-/
import Derived.Test.YtgcmklliafcffaaOwn
namespace Go.Proofs.Ytgcmklliafcffaa.BoxP
open Go.RowKit Go.Sort
set_option linter.unusedVariables false

def Bx (w : World) (b : Nat) (T : TypeId) (vals : Array Value) : Prop := w.heap[b]? = some (.cells vals T (0, 0))
section
variable {w w' : World} {b : Nat} {T : TypeId} {vals : Array Value}
theorem Bx.new (w : World) (vals : Array Value) (T : TypeId) {n : Nat} (hn : w.heap.size = n) : Bx (w.alloc (.cells vals T)) n T vals := by subst hn; exact heap_alloc_new w _
theorem Bx.lt (h : Bx w b T vals) : b < w.heap.size := (Array.getElem?_eq_some_iff.1 h).1
theorem Bx.below (h : Bx w b T vals) (hb : Below w.heap.size w w') : Bx w' b T vals := (hb.block b h.lt).trans h
theorem Bx.alloc (h : Bx w b T vals) (o : Obj) : Bx (w.alloc o) b T vals := h.below ((Below.refl _ _).alloc (Nat.le_refl _) _)
theorem Bx.grown {row : Option Nat} (h : Bx w b T vals) (hg : w.grownBy w' row) (hne : some b ≠ row) : Bx w' b T vals := (hg.block b h.lt hne).trans h
theorem Bx.c (h : Bx w b T vals) {i : Nat} {v : Value} (hv : vals[i]? = some v) : w.cell? ⟨b, i, none⟩ = some v := by
  rw [cell_of_row w b i vals T (0, 0) h]; exact hv
theorem Bx.f (h : Bx w b T vals) (i : Nat) : w.frozen? ⟨b, i, none⟩ = false := frozen_of_row w b i vals T h
theorem Bx.set (h : Bx w b T vals) (i : Nat) (v : Value) : Bx (w.setCell ⟨b, i, none⟩ v) b T (vals.setIfInBounds i v) := heap_setCell_same w b i vals T v h
theorem Bx.other (h : Bx w b T vals) {c : Nat} (hc : b ≠ c) (i : Nat) (v : Value) : Bx (w.setCell ⟨c, i, none⟩ v) b T vals := (heap_setCell_other w ⟨c, i, none⟩ b v hc).trans h
theorem Bx.c3 {v0 v1 v2 : Value} (h : Bx w b T #[v0, v1, v2]) : w.cell? ⟨b, 0, none⟩ = some v0 ∧ w.cell? ⟨b, 1, none⟩ = some v1 ∧ w.cell? ⟨b, 2, none⟩ = some v2 := ⟨h.c (i := 0) rfl, h.c (i := 1) rfl, h.c (i := 2) rfl⟩
theorem Bx.three {v0 v1 v2 u0 u1 u2 : Value} (h : Bx w b T #[v0, v1, v2]) : Bx (((w.setCell ⟨b, 0, none⟩ u0).setCell ⟨b, 1, none⟩ u1).setCell ⟨b, 2, none⟩ u2) b T #[u0, u1, u2] := ((h.set 0 u0).set 1 u1).set 2 u2
end
theorem below3 {n b : Nat} {w0 w : World} (h : Below n w0 w) (hb : n ≤ b) (v0 v1 v2 : Value) : Below n w0 (((w.setCell ⟨b, 0, none⟩ v0).setCell ⟨b, 1, none⟩ v1).setCell ⟨b, 2, none⟩ v2) := ((h.setCell hb _).setCell hb _).setCell hb _
end Go.Proofs.Ytgcmklliafcffaa.BoxP
