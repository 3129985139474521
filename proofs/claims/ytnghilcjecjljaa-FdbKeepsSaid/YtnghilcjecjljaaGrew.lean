/-
  'Grew': some draws on, some blocks laid.
-/
import Derived.Test.YtnghilcjecjljaaOwn
namespace Go.Proofs.Ytnghilcjecjljaa.SliceP
open Go.RowKit
set_option linter.unusedVariables false

/-- Some draws on, some blocks laid. -/
def Grew (w w' : World) : Prop := ∃ p : GrownBy, w' = Go.Sort.grow (w.drewN p.n) p.os
theorem Grew.refl (w : World) : Grew w w := ⟨⟨0, #[]⟩, by rw [Go.Sort.grow_empty]; rfl⟩
theorem Grew.trans {a b c : World} (h : Grew a b) (k : Grew b c) : Grew a c := by
  obtain ⟨p, rfl⟩ := h
  obtain ⟨q, rfl⟩ := k
  exact ⟨⟨p.n + q.n, p.os ++ q.os⟩, by show Go.Sort.grow (Go.Sort.grow ((a.drewN p.n).drewN q.n) p.os) q.os = _; rw [Go.Sort.grow_grow, World.drewN_drewN]⟩
theorem Grew.alloc {a b : World} (h : Grew a b) (o : Obj) : Grew a (b.alloc o) := h.trans ⟨⟨0, #[o]⟩, by rw [Go.Sort.alloc_eq_grow]; rfl⟩
theorem Grew.drawn (w : World) : Grew w { w with drawn := w.drawn + 1 } := ⟨⟨1, #[]⟩, by rw [Go.Sort.grow_empty]; rfl⟩
theorem Grew.below {w w' : World} (h : Grew w w') : Below w.heap.size w w' := by
  obtain ⟨p, rfl⟩ := h
  exact ⟨rfl, rfl, rfl, by simp [Go.Sort.grow, World.drewN], fun k hk => by simp [Go.Sort.grow, World.drewN, Array.getElem?_append, hk]⟩
end Go.Proofs.Ytnghilcjecjljaa.SliceP
