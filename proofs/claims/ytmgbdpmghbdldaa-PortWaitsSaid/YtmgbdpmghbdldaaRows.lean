/-
  No cell of these rows narrows 'for every input' (looked for: loops, veiled, ifaces, maps, wideKeys, modest, calm, conditions, laid).
  DERIVED. THE GIVEN ROWS OF THIS SEAT. 3 by the template 'for every input the law returns true; each argument reads behind the call as it read before'; 0 by the template 'total and deterministic' (their statements: YtmgbdpmghbdldaaTotals.lean).
  GIVEN WITH THE SEED: the statements are not yours to turn. If you find one false, say at which input.
  Laid BY PROGRAM, IN A SANDBOX (cutbox-rows.mjs): the forced cells as the released guide's own fill.sh prints them over the translation 6cef11978b44f78f… (all of the seat's roots in one cut). By AI agents, Wed Nov 11 2026. No macro, syntax, notation, axiom, sorry.
-/
import Derived.Test.YtmgbdpmghbdldaaChecked
import GoSem.Claim
import GoSem.ClaimJoined
import GoSem.ClaimMapViews
import Derived.JoinedTies
import Derived.KernelRfl
namespace Go.Proofs.Ytmgbdpmghbdldaa
/- THE CELL 'sum', in the pinned program and in every row, IS THE sha256 OF THE DUMP (.gsa) THAT YtmgbdpmghbdldaaProg.lean LOADS. Nothing in Lean hashes anything: it is a label: what it is worth is what the hold of that sum in a sandbox is worth. -/
noncomputable def Try.pinned : Pinned := { name := "ytmgbdpmghbdldaa", sum := "6cef11978b44f78f357412b03e944f016c9384c32eeb8f51d22da0b2b2bf3898", checked := Try.checked }
namespace Rows
def none {H : Type} : Left H := { results := [], args := [] }

/-- 'footwaylaw10.PortTells': WHATEVER THE INPUT: true; the input reads as it did. -/
def portTellsSpec : ChangeSpec := { name := "portTells", fn := fun _ => fun
  | [d1, d2, d3] => { results := [.lit (.bool true)], args := [d1, d2, d3] }
  | _ => none }
def portTellsRow : OpenClaim := { program := "ytmgbdpmghbdldaa", sum := "6cef11978b44f78f357412b03e944f016c9384c32eeb8f51d22da0b2b2bf3898", func := "footway/footwaylaw10.PortTells", spec := "portTells", apart := false }
def PortTellsSaid : Prop := portTellsRow.holds Try.pinned (OpenSpec.ofChange portTellsSpec)

/-- ITS FALSE NEIGHBOUR: 'it returns false'. Refute it at one input. -/
def portTellsWrong : ChangeSpec := { name := "portTells", fn := fun _ => fun
  | [d1, d2, d3] => { results := [.lit (.bool false)], args := [d1, d2, d3] }
  | _ => none }
def PortTellsWrongFalsely : Prop := portTellsRow.holds Try.pinned (OpenSpec.ofChange portTellsWrong)

/-- 'footwaylaw10.PortWaits': WHATEVER THE INPUT: true; the input reads as it did. -/
def portWaitsSpec : ChangeSpec := { name := "portWaits", fn := fun _ => fun
  | [d1, d2] => { results := [.lit (.bool true)], args := [d1, d2] }
  | _ => none }
def portWaitsRow : OpenClaim := { program := "ytmgbdpmghbdldaa", sum := "6cef11978b44f78f357412b03e944f016c9384c32eeb8f51d22da0b2b2bf3898", func := "footway/footwaylaw10.PortWaits", spec := "portWaits", apart := false }
def PortWaitsSaid : Prop := portWaitsRow.holds Try.pinned (OpenSpec.ofChange portWaitsSpec)

/-- ITS FALSE NEIGHBOUR: 'it returns false'. Refute it at one input. -/
def portWaitsWrong : ChangeSpec := { name := "portWaits", fn := fun _ => fun
  | [d1, d2] => { results := [.lit (.bool false)], args := [d1, d2] }
  | _ => none }
def PortWaitsWrongFalsely : Prop := portWaitsRow.holds Try.pinned (OpenSpec.ofChange portWaitsWrong)

/-- 'footwaylaw10.PortOff': WHATEVER THE INPUT: true; the input reads as it did. -/
def portOffSpec : ChangeSpec := { name := "portOff", fn := fun _ => fun
  | [d1, d2] => { results := [.lit (.bool true)], args := [d1, d2] }
  | _ => none }
def portOffRow : OpenClaim := { program := "ytmgbdpmghbdldaa", sum := "6cef11978b44f78f357412b03e944f016c9384c32eeb8f51d22da0b2b2bf3898", func := "footway/footwaylaw10.PortOff", spec := "portOff", apart := false }
def PortOffSaid : Prop := portOffRow.holds Try.pinned (OpenSpec.ofChange portOffSpec)

/-- ITS FALSE NEIGHBOUR: 'it returns false'. Refute it at one input. -/
def portOffWrong : ChangeSpec := { name := "portOff", fn := fun _ => fun
  | [d1, d2] => { results := [.lit (.bool false)], args := [d1, d2] }
  | _ => none }
def PortOffWrongFalsely : Prop := portOffRow.holds Try.pinned (OpenSpec.ofChange portOffWrong)

/- THE SECOND FORM. 'bulk': how many values and letters a reading holds, each counted each time it is reached (what is shared counts as often as it is met; a slice's spare places count too). A statement '..UptoSaid' is the law's where the arguments, and the package variables that the reading takes, are together of bulk at most 1048576: NARROWER than '..Said'. Prove '..Said' where nothing that the law and all that it calls make is longer than what came in: it says more and counts as full. Else prove '..UptoSaid'. A law counts once. -/
mutual
def uptoBulk {H : Type} : DataW H → Nat
  | .lit (.string bytes) => bytes.length + 1
  | .lit _ => 1
  | .nil => 1
  | .ptr d => uptoBulk d + 1
  | .slice elems spare => uptoBulkAll elems + uptoBulkAll spare + 1
  | .agg parts => uptoBulkAll parts + 1
  | .iface _ d => uptoBulk d + 1
  | .map entries => uptoBulkEntries entries + 1
  | .held _ => 1
def uptoBulkAll {H : Type} : List (DataW H) → Nat
  | [] => 0
  | d :: r => uptoBulk d + uptoBulkAll r
def uptoBulkEntries {H : Type} : List (Lit × DataW H) → Nat
  | [] => 0
  | x :: r => uptoBulkEntry x + uptoBulkEntries r
def uptoBulkEntry {H : Type} : Lit × DataW H → Nat
  | (.string bytes, d) => bytes.length + uptoBulk d + 1
  | (_, d) => uptoBulk d + 1
 end
def uptoSmall : (H : Type) → List (DataW H) → Bool := fun _ ds => decide (uptoBulkAll ds ≤ 1048576)
def OpenSpec.upto (s : _root_.Go.ChangeSpec) : _root_.Go.OpenSpec := { _root_.Go.OpenSpec.ofChange s with cond := some uptoSmall }

/-- 'footwaylaw10.PortTells', WHERE WHAT IT READS IS OF BULK AT MOST 1048576: true; the input reads as it did. -/
def portTellsUptoRow : OpenClaim := { program := "ytmgbdpmghbdldaa", sum := "6cef11978b44f78f357412b03e944f016c9384c32eeb8f51d22da0b2b2bf3898", func := "footway/footwaylaw10.PortTells", spec := "portTells", apart := false, narrowed := true }
def PortTellsUptoSaid : Prop := portTellsUptoRow.holds Try.pinned (OpenSpec.upto portTellsSpec)

/-- 'footwaylaw10.PortWaits', WHERE WHAT IT READS IS OF BULK AT MOST 1048576: true; the input reads as it did. -/
def portWaitsUptoRow : OpenClaim := { program := "ytmgbdpmghbdldaa", sum := "6cef11978b44f78f357412b03e944f016c9384c32eeb8f51d22da0b2b2bf3898", func := "footway/footwaylaw10.PortWaits", spec := "portWaits", apart := false, narrowed := true }
def PortWaitsUptoSaid : Prop := portWaitsUptoRow.holds Try.pinned (OpenSpec.upto portWaitsSpec)

/-- 'footwaylaw10.PortOff', WHERE WHAT IT READS IS OF BULK AT MOST 1048576: true; the input reads as it did. -/
def portOffUptoRow : OpenClaim := { program := "ytmgbdpmghbdldaa", sum := "6cef11978b44f78f357412b03e944f016c9384c32eeb8f51d22da0b2b2bf3898", func := "footway/footwaylaw10.PortOff", spec := "portOff", apart := false, narrowed := true }
def PortOffUptoSaid : Prop := portOffUptoRow.holds Try.pinned (OpenSpec.upto portOffSpec)

end Rows
end Go.Proofs.Ytmgbdpmghbdldaa
