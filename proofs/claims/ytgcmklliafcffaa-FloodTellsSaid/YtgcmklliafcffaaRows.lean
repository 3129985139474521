/-
  No cell of these rows narrows 'for every input' (looked for: loops, veiled, ifaces, maps, wideKeys, modest, calm, conditions, laid).
  DERIVED. THE GIVEN ROWS OF THIS SEAT. 5 by the template 'for every input the law returns true; each argument reads behind the call as it read before'; 0 by the template 'total and deterministic' (their statements: YtgcmklliafcffaaTotals.lean).
  GIVEN WITH THE SEED: the statements are not yours to turn. If you find one false, say at which input.
  Laid BY PROGRAM, IN A SANDBOX (cutbox-rows.mjs): the forced cells as the released guide's own fill.sh prints them over the translation db214d01b6d04fb3… (all of the seat's roots in one cut). By AI agents, Wed Nov 11 2026. No macro, syntax, notation, axiom, sorry.
-/
import Derived.Test.YtgcmklliafcffaaChecked
import GoSem.Claim
import GoSem.ClaimJoined
import GoSem.ClaimMapViews
import Derived.JoinedTies
import Derived.KernelRfl
namespace Go.Proofs.Ytgcmklliafcffaa
/- THE CELL 'sum', in the pinned program and in every row, IS THE sha256 OF THE DUMP (.gsa) THAT YtgcmklliafcffaaProg.lean LOADS. Nothing in Lean hashes anything: it is a label: what it is worth is what the hold of that sum in a sandbox is worth. -/
noncomputable def Try.pinned : Pinned := { name := "ytgcmklliafcffaa", sum := "db214d01b6d04fb349ed3e558e491897926fccbca78ec50846f8dd710b956688", checked := Try.checked }
namespace Rows
def none {H : Type} : Left H := { results := [], args := [] }

/-- 'footwaylaw16.TreeTells': WHATEVER THE INPUT: true; the input reads as it did. -/
def treeTellsSpec : ChangeSpec := { name := "treeTells", fn := fun _ => fun
  | [d1, d2, d3] => { results := [.lit (.bool true)], args := [d1, d2, d3] }
  | _ => none }
def treeTellsRow : OpenClaim := { program := "ytgcmklliafcffaa", sum := "db214d01b6d04fb349ed3e558e491897926fccbca78ec50846f8dd710b956688", func := "footway/footwaylaw16.TreeTells", spec := "treeTells", unfollowed := true, recurses := true, apart := false }
def TreeTellsSaid : Prop := treeTellsRow.holds Try.pinned (OpenSpec.ofChange treeTellsSpec)

/-- ITS FALSE NEIGHBOUR: 'it returns false'. Refute it at one input. -/
def treeTellsWrong : ChangeSpec := { name := "treeTells", fn := fun _ => fun
  | [d1, d2, d3] => { results := [.lit (.bool false)], args := [d1, d2, d3] }
  | _ => none }
def TreeTellsWrongFalsely : Prop := treeTellsRow.holds Try.pinned (OpenSpec.ofChange treeTellsWrong)

/-- 'footwaylaw16.TreeRoots': WHATEVER THE INPUT: true; the input reads as it did. -/
def treeRootsSpec : ChangeSpec := { name := "treeRoots", fn := fun _ => fun
  | [d] => { results := [.lit (.bool true)], args := [d] }
  | _ => none }
def treeRootsRow : OpenClaim := { program := "ytgcmklliafcffaa", sum := "db214d01b6d04fb349ed3e558e491897926fccbca78ec50846f8dd710b956688", func := "footway/footwaylaw16.TreeRoots", spec := "treeRoots", unfollowed := true, recurses := true, apart := false }
def TreeRootsSaid : Prop := treeRootsRow.holds Try.pinned (OpenSpec.ofChange treeRootsSpec)

/-- ITS FALSE NEIGHBOUR: 'it returns false'. Refute it at one input. -/
def treeRootsWrong : ChangeSpec := { name := "treeRoots", fn := fun _ => fun
  | [d] => { results := [.lit (.bool false)], args := [d] }
  | _ => none }
def TreeRootsWrongFalsely : Prop := treeRootsRow.holds Try.pinned (OpenSpec.ofChange treeRootsWrong)

/-- 'footwaylaw17.FloodTells': WHATEVER THE INPUT: true; the input reads as it did. -/
def floodTellsSpec : ChangeSpec := { name := "floodTells", fn := fun _ => fun
  | [d1, d2, d3, d4] => { results := [.lit (.bool true)], args := [d1, d2, d3, d4] }
  | _ => none }
def floodTellsRow : OpenClaim := { program := "ytgcmklliafcffaa", sum := "db214d01b6d04fb349ed3e558e491897926fccbca78ec50846f8dd710b956688", func := "footway/footwaylaw17.FloodTells", spec := "floodTells", unfollowed := true, recurses := true, apart := false }
def FloodTellsSaid : Prop := floodTellsRow.holds Try.pinned (OpenSpec.ofChange floodTellsSpec)

/-- ITS FALSE NEIGHBOUR: 'it returns false'. Refute it at one input. -/
def floodTellsWrong : ChangeSpec := { name := "floodTells", fn := fun _ => fun
  | [d1, d2, d3, d4] => { results := [.lit (.bool false)], args := [d1, d2, d3, d4] }
  | _ => none }
def FloodTellsWrongFalsely : Prop := floodTellsRow.holds Try.pinned (OpenSpec.ofChange floodTellsWrong)

/-- 'footwaylaw17.FloodBoth': WHATEVER THE INPUT: true; the input reads as it did. -/
def floodBothSpec : ChangeSpec := { name := "floodBoth", fn := fun _ => fun
  | [d1, d2, d3, d4] => { results := [.lit (.bool true)], args := [d1, d2, d3, d4] }
  | _ => none }
def floodBothRow : OpenClaim := { program := "ytgcmklliafcffaa", sum := "db214d01b6d04fb349ed3e558e491897926fccbca78ec50846f8dd710b956688", func := "footway/footwaylaw17.FloodBoth", spec := "floodBoth", unfollowed := true, recurses := true, apart := false }
def FloodBothSaid : Prop := floodBothRow.holds Try.pinned (OpenSpec.ofChange floodBothSpec)

/-- ITS FALSE NEIGHBOUR: 'it returns false'. Refute it at one input. -/
def floodBothWrong : ChangeSpec := { name := "floodBoth", fn := fun _ => fun
  | [d1, d2, d3, d4] => { results := [.lit (.bool false)], args := [d1, d2, d3, d4] }
  | _ => none }
def FloodBothWrongFalsely : Prop := floodBothRow.holds Try.pinned (OpenSpec.ofChange floodBothWrong)

/-- 'footwaylaw17.FloodMore': WHATEVER THE INPUT: true; the input reads as it did. -/
def floodMoreSpec : ChangeSpec := { name := "floodMore", fn := fun _ => fun
  | [d1, d2, d3, d4, d5] => { results := [.lit (.bool true)], args := [d1, d2, d3, d4, d5] }
  | _ => none }
def floodMoreRow : OpenClaim := { program := "ytgcmklliafcffaa", sum := "db214d01b6d04fb349ed3e558e491897926fccbca78ec50846f8dd710b956688", func := "footway/footwaylaw17.FloodMore", spec := "floodMore", unfollowed := true, recurses := true, apart := false }
def FloodMoreSaid : Prop := floodMoreRow.holds Try.pinned (OpenSpec.ofChange floodMoreSpec)

/-- ITS FALSE NEIGHBOUR: 'it returns false'. Refute it at one input. -/
def floodMoreWrong : ChangeSpec := { name := "floodMore", fn := fun _ => fun
  | [d1, d2, d3, d4, d5] => { results := [.lit (.bool false)], args := [d1, d2, d3, d4, d5] }
  | _ => none }
def FloodMoreWrongFalsely : Prop := floodMoreRow.holds Try.pinned (OpenSpec.ofChange floodMoreWrong)

/- THE SECOND FORM. 'bulk': how many values and letters a reading holds, each counted each time it is reached (what is shared counts as often as it is met; a slice's spare places count too). A statement '..UptoSaid' is the law's where the arguments, and the package variables that the reading takes, are together of bulk at most 1048576: NARROWER than '..Said'. Prove '..Said' where nothing that the law and all that it calls make is longer than what came in: it says more and counts as full. Else prove '..UptoSaid'. A law counts once. -/
mutual
def uptoBulk {H : Type} : DataW H → Nat
  | .lit (.string bytes) => bytes.length + 1
  | .lit _ => 1
  | .nil => 1
  | .ptr d => uptoBulk d + 1
  | .slice elems spare => uptoBulkAll elems + uptoBulkAll spare + 1
  | .agg parts => uptoBulkAll parts + 1
  | .iface _ d => uptoBulk d + 1
  | .map entries => uptoBulkEntries entries + 1
  | .held _ => 1
def uptoBulkAll {H : Type} : List (DataW H) → Nat
  | [] => 0
  | d :: r => uptoBulk d + uptoBulkAll r
def uptoBulkEntries {H : Type} : List (Lit × DataW H) → Nat
  | [] => 0
  | x :: r => uptoBulkEntry x + uptoBulkEntries r
def uptoBulkEntry {H : Type} : Lit × DataW H → Nat
  | (.string bytes, d) => bytes.length + uptoBulk d + 1
  | (_, d) => uptoBulk d + 1
 end
def uptoSmall : (H : Type) → List (DataW H) → Bool := fun _ ds => decide (uptoBulkAll ds ≤ 1048576)
def OpenSpec.upto (s : _root_.Go.ChangeSpec) : _root_.Go.OpenSpec := { _root_.Go.OpenSpec.ofChange s with cond := some uptoSmall }

/-- 'footwaylaw16.TreeTells', WHERE WHAT IT READS IS OF BULK AT MOST 1048576: true; the input reads as it did. -/
def treeTellsUptoRow : OpenClaim := { program := "ytgcmklliafcffaa", sum := "db214d01b6d04fb349ed3e558e491897926fccbca78ec50846f8dd710b956688", func := "footway/footwaylaw16.TreeTells", spec := "treeTells", unfollowed := true, recurses := true, apart := false, narrowed := true }
def TreeTellsUptoSaid : Prop := treeTellsUptoRow.holds Try.pinned (OpenSpec.upto treeTellsSpec)

/-- 'footwaylaw16.TreeRoots', WHERE WHAT IT READS IS OF BULK AT MOST 1048576: true; the input reads as it did. -/
def treeRootsUptoRow : OpenClaim := { program := "ytgcmklliafcffaa", sum := "db214d01b6d04fb349ed3e558e491897926fccbca78ec50846f8dd710b956688", func := "footway/footwaylaw16.TreeRoots", spec := "treeRoots", unfollowed := true, recurses := true, apart := false, narrowed := true }
def TreeRootsUptoSaid : Prop := treeRootsUptoRow.holds Try.pinned (OpenSpec.upto treeRootsSpec)

/-- 'footwaylaw17.FloodTells', WHERE WHAT IT READS IS OF BULK AT MOST 1048576: true; the input reads as it did. -/
def floodTellsUptoRow : OpenClaim := { program := "ytgcmklliafcffaa", sum := "db214d01b6d04fb349ed3e558e491897926fccbca78ec50846f8dd710b956688", func := "footway/footwaylaw17.FloodTells", spec := "floodTells", unfollowed := true, recurses := true, apart := false, narrowed := true }
def FloodTellsUptoSaid : Prop := floodTellsUptoRow.holds Try.pinned (OpenSpec.upto floodTellsSpec)

/-- 'footwaylaw17.FloodBoth', WHERE WHAT IT READS IS OF BULK AT MOST 1048576: true; the input reads as it did. -/
def floodBothUptoRow : OpenClaim := { program := "ytgcmklliafcffaa", sum := "db214d01b6d04fb349ed3e558e491897926fccbca78ec50846f8dd710b956688", func := "footway/footwaylaw17.FloodBoth", spec := "floodBoth", unfollowed := true, recurses := true, apart := false, narrowed := true }
def FloodBothUptoSaid : Prop := floodBothUptoRow.holds Try.pinned (OpenSpec.upto floodBothSpec)

/-- 'footwaylaw17.FloodMore', WHERE WHAT IT READS IS OF BULK AT MOST 1048576: true; the input reads as it did. -/
def floodMoreUptoRow : OpenClaim := { program := "ytgcmklliafcffaa", sum := "db214d01b6d04fb349ed3e558e491897926fccbca78ec50846f8dd710b956688", func := "footway/footwaylaw17.FloodMore", spec := "floodMore", unfollowed := true, recurses := true, apart := false, narrowed := true }
def FloodMoreUptoSaid : Prop := floodMoreUptoRow.holds Try.pinned (OpenSpec.upto floodMoreSpec)

end Rows
end Go.Proofs.Ytgcmklliafcffaa
