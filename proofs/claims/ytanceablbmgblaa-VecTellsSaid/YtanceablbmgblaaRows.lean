/-
  No cell of these rows narrows 'for every input' (looked for: loops, veiled, ifaces, maps, wideKeys, modest, calm, conditions, laid).
  DERIVED. THE GIVEN ROWS OF THIS SEAT. 4 by the template 'for every input the law returns true; each argument reads behind the call as it read before'; 0 by the template 'total and deterministic' (their statements: YtanceablbmgblaaTotals.lean).
  GIVEN WITH THE SEED: the statements are not yours to turn. If you find one false, say at which input.
  Laid BY PROGRAM, IN A SANDBOX (cutbox-rows.mjs): the forced cells as the released guide's own fill.sh prints them over the translation 3839d63b5662468d… (all of the seat's roots in one cut). By AI agents, Wed Nov 11 2026. No macro, syntax, notation, axiom, sorry.
-/
import Derived.Test.YtanceablbmgblaaChecked
import GoSem.Claim
import GoSem.ClaimJoined
import GoSem.ClaimMapViews
import Derived.JoinedTies
import Derived.KernelRfl
namespace Go.Proofs.Ytanceablbmgblaa
/- THE CELL 'sum', in the pinned program and in every row, IS THE sha256 OF THE DUMP (.gsa) THAT YtanceablbmgblaaProg.lean LOADS. Nothing in Lean hashes anything: it is a label: what it is worth is what the hold of that sum in a sandbox is worth. -/
noncomputable def Try.pinned : Pinned := { name := "ytanceablbmgblaa", sum := "3839d63b5662468de0f1fb16197fdb1e28b2fa985d0da66e8542d847c731c7d2", checked := Try.checked }
namespace Rows
def none {H : Type} : Left H := { results := [], args := [] }

/-- 'footwaylaw04.VecTells': WHATEVER THE INPUT: true; the input reads as it did. -/
def vecTellsSpec : ChangeSpec := { name := "vecTells", fn := fun _ => fun
  | [d1, d2, d3, d4] => { results := [.lit (.bool true)], args := [d1, d2, d3, d4] }
  | _ => none }
def vecTellsRow : OpenClaim := { program := "ytanceablbmgblaa", sum := "3839d63b5662468de0f1fb16197fdb1e28b2fa985d0da66e8542d847c731c7d2", func := "footway/footwaylaw04.VecTells", spec := "vecTells", unfollowed := true, recurses := true, apart := false }
def VecTellsSaid : Prop := vecTellsRow.holds Try.pinned (OpenSpec.ofChange vecTellsSpec)

/-- ITS FALSE NEIGHBOUR: 'it returns false'. Refute it at one input. -/
def vecTellsWrong : ChangeSpec := { name := "vecTells", fn := fun _ => fun
  | [d1, d2, d3, d4] => { results := [.lit (.bool false)], args := [d1, d2, d3, d4] }
  | _ => none }
def VecTellsWrongFalsely : Prop := vecTellsRow.holds Try.pinned (OpenSpec.ofChange vecTellsWrong)

/-- 'footwaylaw04.VecOrder': WHATEVER THE INPUT: true; the input reads as it did. -/
def vecOrderSpec : ChangeSpec := { name := "vecOrder", fn := fun _ => fun
  | [d1, d2, d3] => { results := [.lit (.bool true)], args := [d1, d2, d3] }
  | _ => none }
def vecOrderRow : OpenClaim := { program := "ytanceablbmgblaa", sum := "3839d63b5662468de0f1fb16197fdb1e28b2fa985d0da66e8542d847c731c7d2", func := "footway/footwaylaw04.VecOrder", spec := "vecOrder", unfollowed := true, recurses := true, apart := false }
def VecOrderSaid : Prop := vecOrderRow.holds Try.pinned (OpenSpec.ofChange vecOrderSpec)

/-- ITS FALSE NEIGHBOUR: 'it returns false'. Refute it at one input. -/
def vecOrderWrong : ChangeSpec := { name := "vecOrder", fn := fun _ => fun
  | [d1, d2, d3] => { results := [.lit (.bool false)], args := [d1, d2, d3] }
  | _ => none }
def VecOrderWrongFalsely : Prop := vecOrderRow.holds Try.pinned (OpenSpec.ofChange vecOrderWrong)

/-- 'footwaylaw04.VecFar': WHATEVER THE INPUT: true; the input reads as it did. -/
def vecFarSpec : ChangeSpec := { name := "vecFar", fn := fun _ => fun
  | [d1, d2, d3, d4] => { results := [.lit (.bool true)], args := [d1, d2, d3, d4] }
  | _ => none }
def vecFarRow : OpenClaim := { program := "ytanceablbmgblaa", sum := "3839d63b5662468de0f1fb16197fdb1e28b2fa985d0da66e8542d847c731c7d2", func := "footway/footwaylaw04.VecFar", spec := "vecFar", unfollowed := true, recurses := true, apart := false }
def VecFarSaid : Prop := vecFarRow.holds Try.pinned (OpenSpec.ofChange vecFarSpec)

/-- ITS FALSE NEIGHBOUR: 'it returns false'. Refute it at one input. -/
def vecFarWrong : ChangeSpec := { name := "vecFar", fn := fun _ => fun
  | [d1, d2, d3, d4] => { results := [.lit (.bool false)], args := [d1, d2, d3, d4] }
  | _ => none }
def VecFarWrongFalsely : Prop := vecFarRow.holds Try.pinned (OpenSpec.ofChange vecFarWrong)

/-- 'footwaylaw04.VecBest': WHATEVER THE INPUT: true; the input reads as it did. -/
def vecBestSpec : ChangeSpec := { name := "vecBest", fn := fun _ => fun
  | [d] => { results := [.lit (.bool true)], args := [d] }
  | _ => none }
def vecBestRow : OpenClaim := { program := "ytanceablbmgblaa", sum := "3839d63b5662468de0f1fb16197fdb1e28b2fa985d0da66e8542d847c731c7d2", func := "footway/footwaylaw04.VecBest", spec := "vecBest", unfollowed := true, recurses := true, apart := false }
def VecBestSaid : Prop := vecBestRow.holds Try.pinned (OpenSpec.ofChange vecBestSpec)

/-- ITS FALSE NEIGHBOUR: 'it returns false'. Refute it at one input. -/
def vecBestWrong : ChangeSpec := { name := "vecBest", fn := fun _ => fun
  | [d] => { results := [.lit (.bool false)], args := [d] }
  | _ => none }
def VecBestWrongFalsely : Prop := vecBestRow.holds Try.pinned (OpenSpec.ofChange vecBestWrong)

/- THE SECOND FORM. 'bulk': how many values and letters a reading holds, each counted each time it is reached (what is shared counts as often as it is met; a slice's spare places count too). A statement '..UptoSaid' is the law's where the arguments, and the package variables that the reading takes, are together of bulk at most 1048576: NARROWER than '..Said'. Prove '..Said' where nothing that the law and all that it calls make is longer than what came in: it says more and counts as full. Else prove '..UptoSaid'. A law counts once. -/
mutual
def uptoBulk {H : Type} : DataW H → Nat
  | .lit (.string bytes) => bytes.length + 1
  | .lit _ => 1
  | .nil => 1
  | .ptr d => uptoBulk d + 1
  | .slice elems spare => uptoBulkAll elems + uptoBulkAll spare + 1
  | .agg parts => uptoBulkAll parts + 1
  | .iface _ d => uptoBulk d + 1
  | .map entries => uptoBulkEntries entries + 1
  | .held _ => 1
def uptoBulkAll {H : Type} : List (DataW H) → Nat
  | [] => 0
  | d :: r => uptoBulk d + uptoBulkAll r
def uptoBulkEntries {H : Type} : List (Lit × DataW H) → Nat
  | [] => 0
  | x :: r => uptoBulkEntry x + uptoBulkEntries r
def uptoBulkEntry {H : Type} : Lit × DataW H → Nat
  | (.string bytes, d) => bytes.length + uptoBulk d + 1
  | (_, d) => uptoBulk d + 1
 end
def uptoSmall : (H : Type) → List (DataW H) → Bool := fun _ ds => decide (uptoBulkAll ds ≤ 1048576)
def OpenSpec.upto (s : _root_.Go.ChangeSpec) : _root_.Go.OpenSpec := { _root_.Go.OpenSpec.ofChange s with cond := some uptoSmall }

/-- 'footwaylaw04.VecTells', WHERE WHAT IT READS IS OF BULK AT MOST 1048576: true; the input reads as it did. -/
def vecTellsUptoRow : OpenClaim := { program := "ytanceablbmgblaa", sum := "3839d63b5662468de0f1fb16197fdb1e28b2fa985d0da66e8542d847c731c7d2", func := "footway/footwaylaw04.VecTells", spec := "vecTells", unfollowed := true, recurses := true, apart := false, narrowed := true }
def VecTellsUptoSaid : Prop := vecTellsUptoRow.holds Try.pinned (OpenSpec.upto vecTellsSpec)

/-- 'footwaylaw04.VecOrder', WHERE WHAT IT READS IS OF BULK AT MOST 1048576: true; the input reads as it did. -/
def vecOrderUptoRow : OpenClaim := { program := "ytanceablbmgblaa", sum := "3839d63b5662468de0f1fb16197fdb1e28b2fa985d0da66e8542d847c731c7d2", func := "footway/footwaylaw04.VecOrder", spec := "vecOrder", unfollowed := true, recurses := true, apart := false, narrowed := true }
def VecOrderUptoSaid : Prop := vecOrderUptoRow.holds Try.pinned (OpenSpec.upto vecOrderSpec)

/-- 'footwaylaw04.VecFar', WHERE WHAT IT READS IS OF BULK AT MOST 1048576: true; the input reads as it did. -/
def vecFarUptoRow : OpenClaim := { program := "ytanceablbmgblaa", sum := "3839d63b5662468de0f1fb16197fdb1e28b2fa985d0da66e8542d847c731c7d2", func := "footway/footwaylaw04.VecFar", spec := "vecFar", unfollowed := true, recurses := true, apart := false, narrowed := true }
def VecFarUptoSaid : Prop := vecFarUptoRow.holds Try.pinned (OpenSpec.upto vecFarSpec)

/-- 'footwaylaw04.VecBest', WHERE WHAT IT READS IS OF BULK AT MOST 1048576: true; the input reads as it did. -/
def vecBestUptoRow : OpenClaim := { program := "ytanceablbmgblaa", sum := "3839d63b5662468de0f1fb16197fdb1e28b2fa985d0da66e8542d847c731c7d2", func := "footway/footwaylaw04.VecBest", spec := "vecBest", unfollowed := true, recurses := true, apart := false, narrowed := true }
def VecBestUptoSaid : Prop := vecBestUptoRow.holds Try.pinned (OpenSpec.upto vecBestSpec)

end Rows
end Go.Proofs.Ytanceablbmgblaa
