/-
  Rows of bools that come in.
-/
import Derived.Test.YtgcmklliafcffaaLanO
import Derived.Test.YtgcmklliafcffaaRowsL
namespace Go.Proofs.Ytgcmklliafcffaa.LanP
open Go.ChangeShapes Go.WideShapes Go.ChangeAt Go.RowKit Go.Proofs.Ytgcmklliafcffaa.SliceP
set_option linter.unusedVariables false
set_option maxRecDepth 100000
section
variable {H : Type} {enc : TypeId × Value → H} {w : World} {base : Nat} {spare : Nat → Bool} {held : Bool}
theorem cells_bools : Try.prog.cellsOf 44 = 1 := by kernel_rfl
theorem bool_cells {n : Nat} {cs : List Value} {x : DataW H × List MemPlace} (h : DataW.trod enc Try.prog w base (fun _ => true) held n 4 cs = some x) : ∃ y : Bool, cs = [.bool y] := by
  obtain ⟨a, h0, _⟩ := DataW.trod_bool Try.underlying4 h
  exact ⟨a, h0⟩
def RIn (w : World) : Type := {x : RwP Bool // Row bc 1 w x.A x.l.length x.c x.l}
instance : Inhabited (RIn w) := ⟨⟨⟨[], none, 0⟩, Row.zero w⟩⟩
theorem rwp_cells {n : Nat} {cs : List Value} {x : DataW H × List MemPlace} (h : DataW.trod enc Try.prog w base (fun _ => true) held n 44 cs = some x) : ∃ y : RIn w, cs = y.1.cells := by
  obtain ⟨A, c, l, h1, hs, hl, hn, hm⟩ := open_sl (α := Bool) bc 1 Try.underlying44 cells_bool (fun _ => rfl) (by decide) (fun h => bool_cells h) h
  exact ⟨⟨⟨l, A, c⟩, ⟨rfl, hs, hl, hn, hm⟩⟩, h1⟩
/-- Rows of bools that come in. -/
def InRows (w : World) (v : Value) : Prop := ∃ (O : List (List Bool)) (C : Option Addr) (e : Nat), v = .slice C O.length e ∧ RowL bc w C O.length e O
theorem open_rows {r' : World} {v : Value} {d : DataW H} {p : List MemPlace} {r : Reach} {b0 : Nat} (hv : Value.okWide Try.prog r' r b0 36 v) (h : DataW.Trod enc Try.prog w base (fun _ => true) held 36 v d p) : InRows w v := by
  obtain ⟨a, len, cap, rfl⟩ := okWide_slice Try.underlying36 hv
  obtain ⟨fuel, hf⟩ := h
  obtain ⟨A, c, ps, h1, hs, hl, hn, hm⟩ := open_sl (α := RIn w) (fun y => y.1.cells) 1 Try.underlying36 cells_bools (fun _ => rfl) (by decide) (fun h => rwp_cells h) hf
  have e : Value.slice a len cap = .slice A ps.length c := by simpa [Value.cells] using h1
  have hs3 : Sl w 1 A ((ps.map fun y => y.1).map RwP.cells) := by rw [List.map_map]; exact hs
  refine ⟨(ps.map fun y => y.1).map RwP.l, A, c, by rw [e]; simp, ⟨rfl, by simpa using hl, hn, hm, _, rfl, hs3, fun z hz => ?_⟩⟩
  obtain ⟨y, _, rfl⟩ := List.mem_map.1 hz
  exact y.2
end
end Go.Proofs.Ytgcmklliafcffaa.LanP
