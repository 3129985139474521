/-
  No cell of these rows narrows 'for every input' (looked for: loops, veiled, ifaces, maps, wideKeys, modest, calm, conditions, laid).
  DERIVED. THE GIVEN ROWS OF THIS SEAT. 5 by the template 'for every input the law returns true; each argument reads behind the call as it read before'; 0 by the template 'total and deterministic' (their statements: YtnghilcjecjljaaTotals.lean).
  GIVEN WITH THE SEED: the statements are not yours to turn. If you find one false, say at which input.
  Laid BY PROGRAM, IN A SANDBOX (cutbox-rows.mjs): the forced cells as the released guide's own fill.sh prints them over the translation 85fcfce635242939… (all of the seat's roots in one cut). By AI agents, Wed Nov 11 2026. No macro, syntax, notation, axiom, sorry.
-/
import Derived.Test.YtnghilcjecjljaaChecked
import GoSem.Claim
import GoSem.ClaimJoined
import GoSem.ClaimMapViews
import Derived.JoinedTies
import Derived.KernelRfl
namespace Go.Proofs.Ytnghilcjecjljaa
/- THE CELL 'sum', in the pinned program and in every row, IS THE sha256 OF THE DUMP (.gsa) THAT YtnghilcjecjljaaProg.lean LOADS. Nothing in Lean hashes anything: it is a label: what it is worth is what the hold of that sum in a sandbox is worth. -/
noncomputable def Try.pinned : Pinned := { name := "ytnghilcjecjljaa", sum := "85fcfce63524293925b318afbc383317347e12c3f4954e8bd5341258c7be5c03", checked := Try.checked }
namespace Rows
def none {H : Type} : Left H := { results := [], args := [] }

/-- 'footwaylaw08.FdbLearns': WHATEVER THE INPUT: true; the input reads as it did. -/
def fdbLearnsSpec : ChangeSpec := { name := "fdbLearns", fn := fun _ => fun
  | [d1, d2, d3, d4, d5, d6, d7] => { results := [.lit (.bool true)], args := [d1, d2, d3, d4, d5, d6, d7] }
  | _ => none }
def fdbLearnsRow : OpenClaim := { program := "ytnghilcjecjljaa", sum := "85fcfce63524293925b318afbc383317347e12c3f4954e8bd5341258c7be5c03", func := "footway/footwaylaw08.FdbLearns", spec := "fdbLearns", inPlace := ["slices.overlaps[footway/api.Entry]"], unfollowed := true, recurses := true, apart := false }
def FdbLearnsSaid : Prop := fdbLearnsRow.holds Try.pinned (OpenSpec.ofChange fdbLearnsSpec)

/-- ITS FALSE NEIGHBOUR: 'it returns false'. Refute it at one input. -/
def fdbLearnsWrong : ChangeSpec := { name := "fdbLearns", fn := fun _ => fun
  | [d1, d2, d3, d4, d5, d6, d7] => { results := [.lit (.bool false)], args := [d1, d2, d3, d4, d5, d6, d7] }
  | _ => none }
def FdbLearnsWrongFalsely : Prop := fdbLearnsRow.holds Try.pinned (OpenSpec.ofChange fdbLearnsWrong)

/-- 'footwaylaw08.FdbKeeps': WHATEVER THE INPUT: true; the input reads as it did. -/
def fdbKeepsSpec : ChangeSpec := { name := "fdbKeeps", fn := fun _ => fun
  | [d1, d2, d3, d4] => { results := [.lit (.bool true)], args := [d1, d2, d3, d4] }
  | _ => none }
def fdbKeepsRow : OpenClaim := { program := "ytnghilcjecjljaa", sum := "85fcfce63524293925b318afbc383317347e12c3f4954e8bd5341258c7be5c03", func := "footway/footwaylaw08.FdbKeeps", spec := "fdbKeeps", inPlace := ["slices.overlaps[footway/api.Entry]"], unfollowed := true, recurses := true, apart := false }
def FdbKeepsSaid : Prop := fdbKeepsRow.holds Try.pinned (OpenSpec.ofChange fdbKeepsSpec)

/-- ITS FALSE NEIGHBOUR: 'it returns false'. Refute it at one input. -/
def fdbKeepsWrong : ChangeSpec := { name := "fdbKeeps", fn := fun _ => fun
  | [d1, d2, d3, d4] => { results := [.lit (.bool false)], args := [d1, d2, d3, d4] }
  | _ => none }
def FdbKeepsWrongFalsely : Prop := fdbKeepsRow.holds Try.pinned (OpenSpec.ofChange fdbKeepsWrong)

/-- 'footwaylaw08.FdbForgets': WHATEVER THE INPUT: true; the input reads as it did. -/
def fdbForgetsSpec : ChangeSpec := { name := "fdbForgets", fn := fun _ => fun
  | [d1, d2, d3, d4] => { results := [.lit (.bool true)], args := [d1, d2, d3, d4] }
  | _ => none }
def fdbForgetsRow : OpenClaim := { program := "ytnghilcjecjljaa", sum := "85fcfce63524293925b318afbc383317347e12c3f4954e8bd5341258c7be5c03", func := "footway/footwaylaw08.FdbForgets", spec := "fdbForgets", inPlace := ["slices.overlaps[footway/api.Entry]"], unfollowed := true, recurses := true, apart := false }
def FdbForgetsSaid : Prop := fdbForgetsRow.holds Try.pinned (OpenSpec.ofChange fdbForgetsSpec)

/-- ITS FALSE NEIGHBOUR: 'it returns false'. Refute it at one input. -/
def fdbForgetsWrong : ChangeSpec := { name := "fdbForgets", fn := fun _ => fun
  | [d1, d2, d3, d4] => { results := [.lit (.bool false)], args := [d1, d2, d3, d4] }
  | _ => none }
def FdbForgetsWrongFalsely : Prop := fdbForgetsRow.holds Try.pinned (OpenSpec.ofChange fdbForgetsWrong)

/-- 'footwaylaw08.FdbCrowds': WHATEVER THE INPUT: true; the input reads as it did. -/
def fdbCrowdsSpec : ChangeSpec := { name := "fdbCrowds", fn := fun _ => fun
  | [d1, d2, d3, d4, d5, d6] => { results := [.lit (.bool true)], args := [d1, d2, d3, d4, d5, d6] }
  | _ => none }
def fdbCrowdsRow : OpenClaim := { program := "ytnghilcjecjljaa", sum := "85fcfce63524293925b318afbc383317347e12c3f4954e8bd5341258c7be5c03", func := "footway/footwaylaw08.FdbCrowds", spec := "fdbCrowds", inPlace := ["slices.overlaps[footway/api.Entry]"], unfollowed := true, recurses := true, apart := false }
def FdbCrowdsSaid : Prop := fdbCrowdsRow.holds Try.pinned (OpenSpec.ofChange fdbCrowdsSpec)

/-- ITS FALSE NEIGHBOUR: 'it returns false'. Refute it at one input. -/
def fdbCrowdsWrong : ChangeSpec := { name := "fdbCrowds", fn := fun _ => fun
  | [d1, d2, d3, d4, d5, d6] => { results := [.lit (.bool false)], args := [d1, d2, d3, d4, d5, d6] }
  | _ => none }
def FdbCrowdsWrongFalsely : Prop := fdbCrowdsRow.holds Try.pinned (OpenSpec.ofChange fdbCrowdsWrong)

/-- 'footwaylaw08.FdbFlushes': WHATEVER THE INPUT: true; the input reads as it did. -/
def fdbFlushesSpec : ChangeSpec := { name := "fdbFlushes", fn := fun _ => fun
  | [d1, d2, d3, d4] => { results := [.lit (.bool true)], args := [d1, d2, d3, d4] }
  | _ => none }
def fdbFlushesRow : OpenClaim := { program := "ytnghilcjecjljaa", sum := "85fcfce63524293925b318afbc383317347e12c3f4954e8bd5341258c7be5c03", func := "footway/footwaylaw08.FdbFlushes", spec := "fdbFlushes", inPlace := ["slices.overlaps[footway/api.Entry]"], unfollowed := true, recurses := true, apart := false }
def FdbFlushesSaid : Prop := fdbFlushesRow.holds Try.pinned (OpenSpec.ofChange fdbFlushesSpec)

/-- ITS FALSE NEIGHBOUR: 'it returns false'. Refute it at one input. -/
def fdbFlushesWrong : ChangeSpec := { name := "fdbFlushes", fn := fun _ => fun
  | [d1, d2, d3, d4] => { results := [.lit (.bool false)], args := [d1, d2, d3, d4] }
  | _ => none }
def FdbFlushesWrongFalsely : Prop := fdbFlushesRow.holds Try.pinned (OpenSpec.ofChange fdbFlushesWrong)

/- THE SECOND FORM. 'bulk': how many values and letters a reading holds, each counted each time it is reached (what is shared counts as often as it is met; a slice's spare places count too). A statement '..UptoSaid' is the law's where the arguments, and the package variables that the reading takes, are together of bulk at most 1048576: NARROWER than '..Said'. Prove '..Said' where nothing that the law and all that it calls make is longer than what came in: it says more and counts as full. Else prove '..UptoSaid'. A law counts once. -/
mutual
def uptoBulk {H : Type} : DataW H → Nat
  | .lit (.string bytes) => bytes.length + 1
  | .lit _ => 1
  | .nil => 1
  | .ptr d => uptoBulk d + 1
  | .slice elems spare => uptoBulkAll elems + uptoBulkAll spare + 1
  | .agg parts => uptoBulkAll parts + 1
  | .iface _ d => uptoBulk d + 1
  | .map entries => uptoBulkEntries entries + 1
  | .held _ => 1
def uptoBulkAll {H : Type} : List (DataW H) → Nat
  | [] => 0
  | d :: r => uptoBulk d + uptoBulkAll r
def uptoBulkEntries {H : Type} : List (Lit × DataW H) → Nat
  | [] => 0
  | x :: r => uptoBulkEntry x + uptoBulkEntries r
def uptoBulkEntry {H : Type} : Lit × DataW H → Nat
  | (.string bytes, d) => bytes.length + uptoBulk d + 1
  | (_, d) => uptoBulk d + 1
 end
def uptoSmall : (H : Type) → List (DataW H) → Bool := fun _ ds => decide (uptoBulkAll ds ≤ 1048576)
def OpenSpec.upto (s : _root_.Go.ChangeSpec) : _root_.Go.OpenSpec := { _root_.Go.OpenSpec.ofChange s with cond := some uptoSmall }

/-- 'footwaylaw08.FdbLearns', WHERE WHAT IT READS IS OF BULK AT MOST 1048576: true; the input reads as it did. -/
def fdbLearnsUptoRow : OpenClaim := { program := "ytnghilcjecjljaa", sum := "85fcfce63524293925b318afbc383317347e12c3f4954e8bd5341258c7be5c03", func := "footway/footwaylaw08.FdbLearns", spec := "fdbLearns", inPlace := ["slices.overlaps[footway/api.Entry]"], unfollowed := true, recurses := true, apart := false, narrowed := true }
def FdbLearnsUptoSaid : Prop := fdbLearnsUptoRow.holds Try.pinned (OpenSpec.upto fdbLearnsSpec)

/-- 'footwaylaw08.FdbKeeps', WHERE WHAT IT READS IS OF BULK AT MOST 1048576: true; the input reads as it did. -/
def fdbKeepsUptoRow : OpenClaim := { program := "ytnghilcjecjljaa", sum := "85fcfce63524293925b318afbc383317347e12c3f4954e8bd5341258c7be5c03", func := "footway/footwaylaw08.FdbKeeps", spec := "fdbKeeps", inPlace := ["slices.overlaps[footway/api.Entry]"], unfollowed := true, recurses := true, apart := false, narrowed := true }
def FdbKeepsUptoSaid : Prop := fdbKeepsUptoRow.holds Try.pinned (OpenSpec.upto fdbKeepsSpec)

/-- 'footwaylaw08.FdbForgets', WHERE WHAT IT READS IS OF BULK AT MOST 1048576: true; the input reads as it did. -/
def fdbForgetsUptoRow : OpenClaim := { program := "ytnghilcjecjljaa", sum := "85fcfce63524293925b318afbc383317347e12c3f4954e8bd5341258c7be5c03", func := "footway/footwaylaw08.FdbForgets", spec := "fdbForgets", inPlace := ["slices.overlaps[footway/api.Entry]"], unfollowed := true, recurses := true, apart := false, narrowed := true }
def FdbForgetsUptoSaid : Prop := fdbForgetsUptoRow.holds Try.pinned (OpenSpec.upto fdbForgetsSpec)

/-- 'footwaylaw08.FdbCrowds', WHERE WHAT IT READS IS OF BULK AT MOST 1048576: true; the input reads as it did. -/
def fdbCrowdsUptoRow : OpenClaim := { program := "ytnghilcjecjljaa", sum := "85fcfce63524293925b318afbc383317347e12c3f4954e8bd5341258c7be5c03", func := "footway/footwaylaw08.FdbCrowds", spec := "fdbCrowds", inPlace := ["slices.overlaps[footway/api.Entry]"], unfollowed := true, recurses := true, apart := false, narrowed := true }
def FdbCrowdsUptoSaid : Prop := fdbCrowdsUptoRow.holds Try.pinned (OpenSpec.upto fdbCrowdsSpec)

/-- 'footwaylaw08.FdbFlushes', WHERE WHAT IT READS IS OF BULK AT MOST 1048576: true; the input reads as it did. -/
def fdbFlushesUptoRow : OpenClaim := { program := "ytnghilcjecjljaa", sum := "85fcfce63524293925b318afbc383317347e12c3f4954e8bd5341258c7be5c03", func := "footway/footwaylaw08.FdbFlushes", spec := "fdbFlushes", inPlace := ["slices.overlaps[footway/api.Entry]"], unfollowed := true, recurses := true, apart := false, narrowed := true }
def FdbFlushesUptoSaid : Prop := fdbFlushesUptoRow.holds Try.pinned (OpenSpec.upto fdbFlushesSpec)

end Rows
end Go.Proofs.Ytnghilcjecjljaa
