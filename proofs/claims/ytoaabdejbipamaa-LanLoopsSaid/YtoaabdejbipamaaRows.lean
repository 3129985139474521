/-
  No cell of these rows narrows 'for every input' (looked for: loops, veiled, ifaces, maps, wideKeys, modest, calm, conditions, laid).
  DERIVED. THE GIVEN ROWS OF THIS SEAT. 4 by the template 'for every input the law returns true; each argument reads behind the call as it read before'; 0 by the template 'total and deterministic' (their statements: YtoaabdejbipamaaTotals.lean).
  GIVEN WITH THE SEED: the statements are not yours to turn. If you find one false, say at which input.
  Laid BY PROGRAM, IN A SANDBOX (cutbox-rows.mjs): the forced cells as the released guide's own fill.sh prints them over the translation 9d3a4ee305cd4555… (all of the seat's roots in one cut). By AI agents, Wed Nov 11 2026. No macro, syntax, notation, axiom, sorry.
-/
import Derived.Test.YtoaabdejbipamaaChecked
import GoSem.Claim
import GoSem.ClaimJoined
import GoSem.ClaimMapViews
import Derived.JoinedTies
import Derived.KernelRfl
namespace Go.Proofs.Ytoaabdejbipamaa
/- THE CELL 'sum', in the pinned program and in every row, IS THE sha256 OF THE DUMP (.gsa) THAT YtoaabdejbipamaaProg.lean LOADS. Nothing in Lean hashes anything: it is a label: what it is worth is what the hold of that sum in a sandbox is worth. -/
noncomputable def Try.pinned : Pinned := { name := "ytoaabdejbipamaa", sum := "9d3a4ee305cd45555ef52cf38a5a4d5d2776c295dad5656c3da2f686d408b970", checked := Try.checked }
namespace Rows
def none {H : Type} : Left H := { results := [], args := [] }

/-- 'footwaylaw15.LanTells': WHATEVER THE INPUT: true; the input reads as it did. -/
def lanTellsSpec : ChangeSpec := { name := "lanTells", fn := fun _ => fun
  | [d1, d2] => { results := [.lit (.bool true)], args := [d1, d2] }
  | _ => none }
def lanTellsRow : OpenClaim := { program := "ytoaabdejbipamaa", sum := "9d3a4ee305cd45555ef52cf38a5a4d5d2776c295dad5656c3da2f686d408b970", func := "footway/footwaylaw15.LanTells", spec := "lanTells", unfollowed := true, recurses := true, apart := false }
def LanTellsSaid : Prop := lanTellsRow.holds Try.pinned (OpenSpec.ofChange lanTellsSpec)

/-- ITS FALSE NEIGHBOUR: 'it returns false'. Refute it at one input. -/
def lanTellsWrong : ChangeSpec := { name := "lanTells", fn := fun _ => fun
  | [d1, d2] => { results := [.lit (.bool false)], args := [d1, d2] }
  | _ => none }
def LanTellsWrongFalsely : Prop := lanTellsRow.holds Try.pinned (OpenSpec.ofChange lanTellsWrong)

/-- 'footwaylaw15.LanParts': WHATEVER THE INPUT: true; the input reads as it did. -/
def lanPartsSpec : ChangeSpec := { name := "lanParts", fn := fun _ => fun
  | [d1, d2, d3] => { results := [.lit (.bool true)], args := [d1, d2, d3] }
  | _ => none }
def lanPartsRow : OpenClaim := { program := "ytoaabdejbipamaa", sum := "9d3a4ee305cd45555ef52cf38a5a4d5d2776c295dad5656c3da2f686d408b970", func := "footway/footwaylaw15.LanParts", spec := "lanParts", unfollowed := true, recurses := true, apart := false }
def LanPartsSaid : Prop := lanPartsRow.holds Try.pinned (OpenSpec.ofChange lanPartsSpec)

/-- ITS FALSE NEIGHBOUR: 'it returns false'. Refute it at one input. -/
def lanPartsWrong : ChangeSpec := { name := "lanParts", fn := fun _ => fun
  | [d1, d2, d3] => { results := [.lit (.bool false)], args := [d1, d2, d3] }
  | _ => none }
def LanPartsWrongFalsely : Prop := lanPartsRow.holds Try.pinned (OpenSpec.ofChange lanPartsWrong)

/-- 'footwaylaw15.LanLoops': WHATEVER THE INPUT: true; the input reads as it did. -/
def lanLoopsSpec : ChangeSpec := { name := "lanLoops", fn := fun _ => fun
  | [d1, d2, d3] => { results := [.lit (.bool true)], args := [d1, d2, d3] }
  | _ => none }
def lanLoopsRow : OpenClaim := { program := "ytoaabdejbipamaa", sum := "9d3a4ee305cd45555ef52cf38a5a4d5d2776c295dad5656c3da2f686d408b970", func := "footway/footwaylaw15.LanLoops", spec := "lanLoops", unfollowed := true, recurses := true, apart := false }
def LanLoopsSaid : Prop := lanLoopsRow.holds Try.pinned (OpenSpec.ofChange lanLoopsSpec)

/-- ITS FALSE NEIGHBOUR: 'it returns false'. Refute it at one input. -/
def lanLoopsWrong : ChangeSpec := { name := "lanLoops", fn := fun _ => fun
  | [d1, d2, d3] => { results := [.lit (.bool false)], args := [d1, d2, d3] }
  | _ => none }
def LanLoopsWrongFalsely : Prop := lanLoopsRow.holds Try.pinned (OpenSpec.ofChange lanLoopsWrong)

/-- 'footwaylaw15.LanStations': WHATEVER THE INPUT: true; the input reads as it did. -/
def lanStationsSpec : ChangeSpec := { name := "lanStations", fn := fun _ => fun
  | [d1, d2, d3] => { results := [.lit (.bool true)], args := [d1, d2, d3] }
  | _ => none }
def lanStationsRow : OpenClaim := { program := "ytoaabdejbipamaa", sum := "9d3a4ee305cd45555ef52cf38a5a4d5d2776c295dad5656c3da2f686d408b970", func := "footway/footwaylaw15.LanStations", spec := "lanStations", unfollowed := true, recurses := true, apart := false }
def LanStationsSaid : Prop := lanStationsRow.holds Try.pinned (OpenSpec.ofChange lanStationsSpec)

/-- ITS FALSE NEIGHBOUR: 'it returns false'. Refute it at one input. -/
def lanStationsWrong : ChangeSpec := { name := "lanStations", fn := fun _ => fun
  | [d1, d2, d3] => { results := [.lit (.bool false)], args := [d1, d2, d3] }
  | _ => none }
def LanStationsWrongFalsely : Prop := lanStationsRow.holds Try.pinned (OpenSpec.ofChange lanStationsWrong)

/- THE SECOND FORM. 'bulk': how many values and letters a reading holds, each counted each time it is reached (what is shared counts as often as it is met; a slice's spare places count too). A statement '..UptoSaid' is the law's where the arguments, and the package variables that the reading takes, are together of bulk at most 1048576: NARROWER than '..Said'. Prove '..Said' where nothing that the law and all that it calls make is longer than what came in: it says more and counts as full. Else prove '..UptoSaid'. A law counts once. -/
mutual
def uptoBulk {H : Type} : DataW H → Nat
  | .lit (.string bytes) => bytes.length + 1
  | .lit _ => 1
  | .nil => 1
  | .ptr d => uptoBulk d + 1
  | .slice elems spare => uptoBulkAll elems + uptoBulkAll spare + 1
  | .agg parts => uptoBulkAll parts + 1
  | .iface _ d => uptoBulk d + 1
  | .map entries => uptoBulkEntries entries + 1
  | .held _ => 1
def uptoBulkAll {H : Type} : List (DataW H) → Nat
  | [] => 0
  | d :: r => uptoBulk d + uptoBulkAll r
def uptoBulkEntries {H : Type} : List (Lit × DataW H) → Nat
  | [] => 0
  | x :: r => uptoBulkEntry x + uptoBulkEntries r
def uptoBulkEntry {H : Type} : Lit × DataW H → Nat
  | (.string bytes, d) => bytes.length + uptoBulk d + 1
  | (_, d) => uptoBulk d + 1
 end
def uptoSmall : (H : Type) → List (DataW H) → Bool := fun _ ds => decide (uptoBulkAll ds ≤ 1048576)
def OpenSpec.upto (s : _root_.Go.ChangeSpec) : _root_.Go.OpenSpec := { _root_.Go.OpenSpec.ofChange s with cond := some uptoSmall }

/-- 'footwaylaw15.LanTells', WHERE WHAT IT READS IS OF BULK AT MOST 1048576: true; the input reads as it did. -/
def lanTellsUptoRow : OpenClaim := { program := "ytoaabdejbipamaa", sum := "9d3a4ee305cd45555ef52cf38a5a4d5d2776c295dad5656c3da2f686d408b970", func := "footway/footwaylaw15.LanTells", spec := "lanTells", unfollowed := true, recurses := true, apart := false, narrowed := true }
def LanTellsUptoSaid : Prop := lanTellsUptoRow.holds Try.pinned (OpenSpec.upto lanTellsSpec)

/-- 'footwaylaw15.LanParts', WHERE WHAT IT READS IS OF BULK AT MOST 1048576: true; the input reads as it did. -/
def lanPartsUptoRow : OpenClaim := { program := "ytoaabdejbipamaa", sum := "9d3a4ee305cd45555ef52cf38a5a4d5d2776c295dad5656c3da2f686d408b970", func := "footway/footwaylaw15.LanParts", spec := "lanParts", unfollowed := true, recurses := true, apart := false, narrowed := true }
def LanPartsUptoSaid : Prop := lanPartsUptoRow.holds Try.pinned (OpenSpec.upto lanPartsSpec)

/-- 'footwaylaw15.LanLoops', WHERE WHAT IT READS IS OF BULK AT MOST 1048576: true; the input reads as it did. -/
def lanLoopsUptoRow : OpenClaim := { program := "ytoaabdejbipamaa", sum := "9d3a4ee305cd45555ef52cf38a5a4d5d2776c295dad5656c3da2f686d408b970", func := "footway/footwaylaw15.LanLoops", spec := "lanLoops", unfollowed := true, recurses := true, apart := false, narrowed := true }
def LanLoopsUptoSaid : Prop := lanLoopsUptoRow.holds Try.pinned (OpenSpec.upto lanLoopsSpec)

/-- 'footwaylaw15.LanStations', WHERE WHAT IT READS IS OF BULK AT MOST 1048576: true; the input reads as it did. -/
def lanStationsUptoRow : OpenClaim := { program := "ytoaabdejbipamaa", sum := "9d3a4ee305cd45555ef52cf38a5a4d5d2776c295dad5656c3da2f686d408b970", func := "footway/footwaylaw15.LanStations", spec := "lanStations", unfollowed := true, recurses := true, apart := false, narrowed := true }
def LanStationsUptoSaid : Prop := lanStationsUptoRow.holds Try.pinned (OpenSpec.upto lanStationsSpec)

end Rows
end Go.Proofs.Ytoaabdejbipamaa
