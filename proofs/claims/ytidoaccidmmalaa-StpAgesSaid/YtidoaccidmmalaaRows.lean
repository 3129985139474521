/-
  No cell of these rows narrows 'for every input' (looked for: loops, veiled, ifaces, maps, wideKeys, modest, calm, conditions, laid).
  DERIVED. THE GIVEN ROWS OF THIS SEAT. 3 by the template 'for every input the law returns true; each argument reads behind the call as it read before'; 0 by the template 'total and deterministic' (their statements: YtidoaccidmmalaaTotals.lean).
  GIVEN WITH THE SEED: the statements are not yours to turn. If you find one false, say at which input.
  Laid BY PROGRAM, IN A SANDBOX (cutbox-rows.mjs): the forced cells as the released guide's own fill.sh prints them over the translation da8e2b9b438fd3b4… (all of the seat's roots in one cut). By AI agents, Wed Nov 11 2026. No macro, syntax, notation, axiom, sorry.
-/
import Derived.Test.YtidoaccidmmalaaChecked
import GoSem.Claim
import GoSem.ClaimJoined
import GoSem.ClaimMapViews
import Derived.JoinedTies
import Derived.KernelRfl
namespace Go.Proofs.Ytidoaccidmmalaa
/- THE CELL 'sum', in the pinned program and in every row, IS THE sha256 OF THE DUMP (.gsa) THAT YtidoaccidmmalaaProg.lean LOADS. Nothing in Lean hashes anything: it is a label: what it is worth is what the hold of that sum in a sandbox is worth. -/
noncomputable def Try.pinned : Pinned := { name := "ytidoaccidmmalaa", sum := "da8e2b9b438fd3b42672525ac2644d24d3dbf3a7071e64ce259f6061c00ad4e2", checked := Try.checked }
namespace Rows
def none {H : Type} : Left H := { results := [], args := [] }

/-- 'footwaylaw12.StpHears': WHATEVER THE INPUT: true; the input reads as it did. -/
def stpHearsSpec : ChangeSpec := { name := "stpHears", fn := fun _ => fun
  | [d1, d2, d3, d4, d5, d6, d7] => { results := [.lit (.bool true)], args := [d1, d2, d3, d4, d5, d6, d7] }
  | _ => none }
def stpHearsRow : OpenClaim := { program := "ytidoaccidmmalaa", sum := "da8e2b9b438fd3b42672525ac2644d24d3dbf3a7071e64ce259f6061c00ad4e2", func := "footway/footwaylaw12.StpHears", spec := "stpHears", unfollowed := true, recurses := true, apart := false }
def StpHearsSaid : Prop := stpHearsRow.holds Try.pinned (OpenSpec.ofChange stpHearsSpec)

/-- ITS FALSE NEIGHBOUR: 'it returns false'. Refute it at one input. -/
def stpHearsWrong : ChangeSpec := { name := "stpHears", fn := fun _ => fun
  | [d1, d2, d3, d4, d5, d6, d7] => { results := [.lit (.bool false)], args := [d1, d2, d3, d4, d5, d6, d7] }
  | _ => none }
def StpHearsWrongFalsely : Prop := stpHearsRow.holds Try.pinned (OpenSpec.ofChange stpHearsWrong)

/-- 'footwaylaw12.StpTicks': WHATEVER THE INPUT: true; the input reads as it did. -/
def stpTicksSpec : ChangeSpec := { name := "stpTicks", fn := fun _ => fun
  | [d1, d2, d3] => { results := [.lit (.bool true)], args := [d1, d2, d3] }
  | _ => none }
def stpTicksRow : OpenClaim := { program := "ytidoaccidmmalaa", sum := "da8e2b9b438fd3b42672525ac2644d24d3dbf3a7071e64ce259f6061c00ad4e2", func := "footway/footwaylaw12.StpTicks", spec := "stpTicks", unfollowed := true, recurses := true, apart := false }
def StpTicksSaid : Prop := stpTicksRow.holds Try.pinned (OpenSpec.ofChange stpTicksSpec)

/-- ITS FALSE NEIGHBOUR: 'it returns false'. Refute it at one input. -/
def stpTicksWrong : ChangeSpec := { name := "stpTicks", fn := fun _ => fun
  | [d1, d2, d3] => { results := [.lit (.bool false)], args := [d1, d2, d3] }
  | _ => none }
def StpTicksWrongFalsely : Prop := stpTicksRow.holds Try.pinned (OpenSpec.ofChange stpTicksWrong)

/-- 'footwaylaw12.StpAges': WHATEVER THE INPUT: true; the input reads as it did. -/
def stpAgesSpec : ChangeSpec := { name := "stpAges", fn := fun _ => fun
  | [d1, d2, d3, d4, d5] => { results := [.lit (.bool true)], args := [d1, d2, d3, d4, d5] }
  | _ => none }
def stpAgesRow : OpenClaim := { program := "ytidoaccidmmalaa", sum := "da8e2b9b438fd3b42672525ac2644d24d3dbf3a7071e64ce259f6061c00ad4e2", func := "footway/footwaylaw12.StpAges", spec := "stpAges", unfollowed := true, recurses := true, apart := false }
def StpAgesSaid : Prop := stpAgesRow.holds Try.pinned (OpenSpec.ofChange stpAgesSpec)

/-- ITS FALSE NEIGHBOUR: 'it returns false'. Refute it at one input. -/
def stpAgesWrong : ChangeSpec := { name := "stpAges", fn := fun _ => fun
  | [d1, d2, d3, d4, d5] => { results := [.lit (.bool false)], args := [d1, d2, d3, d4, d5] }
  | _ => none }
def StpAgesWrongFalsely : Prop := stpAgesRow.holds Try.pinned (OpenSpec.ofChange stpAgesWrong)

/- THE SECOND FORM. 'bulk': how many values and letters a reading holds, each counted each time it is reached (what is shared counts as often as it is met; a slice's spare places count too). A statement '..UptoSaid' is the law's where the arguments, and the package variables that the reading takes, are together of bulk at most 1048576: NARROWER than '..Said'. Prove '..Said' where nothing that the law and all that it calls make is longer than what came in: it says more and counts as full. Else prove '..UptoSaid'. A law counts once. -/
mutual
def uptoBulk {H : Type} : DataW H → Nat
  | .lit (.string bytes) => bytes.length + 1
  | .lit _ => 1
  | .nil => 1
  | .ptr d => uptoBulk d + 1
  | .slice elems spare => uptoBulkAll elems + uptoBulkAll spare + 1
  | .agg parts => uptoBulkAll parts + 1
  | .iface _ d => uptoBulk d + 1
  | .map entries => uptoBulkEntries entries + 1
  | .held _ => 1
def uptoBulkAll {H : Type} : List (DataW H) → Nat
  | [] => 0
  | d :: r => uptoBulk d + uptoBulkAll r
def uptoBulkEntries {H : Type} : List (Lit × DataW H) → Nat
  | [] => 0
  | x :: r => uptoBulkEntry x + uptoBulkEntries r
def uptoBulkEntry {H : Type} : Lit × DataW H → Nat
  | (.string bytes, d) => bytes.length + uptoBulk d + 1
  | (_, d) => uptoBulk d + 1
 end
def uptoSmall : (H : Type) → List (DataW H) → Bool := fun _ ds => decide (uptoBulkAll ds ≤ 1048576)
def OpenSpec.upto (s : _root_.Go.ChangeSpec) : _root_.Go.OpenSpec := { _root_.Go.OpenSpec.ofChange s with cond := some uptoSmall }

/-- 'footwaylaw12.StpHears', WHERE WHAT IT READS IS OF BULK AT MOST 1048576: true; the input reads as it did. -/
def stpHearsUptoRow : OpenClaim := { program := "ytidoaccidmmalaa", sum := "da8e2b9b438fd3b42672525ac2644d24d3dbf3a7071e64ce259f6061c00ad4e2", func := "footway/footwaylaw12.StpHears", spec := "stpHears", unfollowed := true, recurses := true, apart := false, narrowed := true }
def StpHearsUptoSaid : Prop := stpHearsUptoRow.holds Try.pinned (OpenSpec.upto stpHearsSpec)

/-- 'footwaylaw12.StpTicks', WHERE WHAT IT READS IS OF BULK AT MOST 1048576: true; the input reads as it did. -/
def stpTicksUptoRow : OpenClaim := { program := "ytidoaccidmmalaa", sum := "da8e2b9b438fd3b42672525ac2644d24d3dbf3a7071e64ce259f6061c00ad4e2", func := "footway/footwaylaw12.StpTicks", spec := "stpTicks", unfollowed := true, recurses := true, apart := false, narrowed := true }
def StpTicksUptoSaid : Prop := stpTicksUptoRow.holds Try.pinned (OpenSpec.upto stpTicksSpec)

/-- 'footwaylaw12.StpAges', WHERE WHAT IT READS IS OF BULK AT MOST 1048576: true; the input reads as it did. -/
def stpAgesUptoRow : OpenClaim := { program := "ytidoaccidmmalaa", sum := "da8e2b9b438fd3b42672525ac2644d24d3dbf3a7071e64ce259f6061c00ad4e2", func := "footway/footwaylaw12.StpAges", spec := "stpAges", unfollowed := true, recurses := true, apart := false, narrowed := true }
def StpAgesUptoSaid : Prop := stpAgesUptoRow.holds Try.pinned (OpenSpec.upto stpAgesSpec)

end Rows
end Go.Proofs.Ytidoaccidmmalaa
