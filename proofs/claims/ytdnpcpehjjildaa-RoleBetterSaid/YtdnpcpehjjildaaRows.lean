/-
  No cell of these rows narrows 'for every input' (looked for: loops, veiled, ifaces, maps, wideKeys, modest, calm, conditions, laid).
  DERIVED. THE GIVEN ROWS OF THIS SEAT. 4 by the template 'for every input the law returns true; each argument reads behind the call as it read before'; 0 by the template 'total and deterministic' (their statements: YtdnpcpehjjildaaTotals.lean).
  GIVEN WITH THE SEED: the statements are not yours to turn. If you find one false, say at which input.
  Laid BY PROGRAM, IN A SANDBOX (cutbox-rows.mjs): the forced cells as the released guide's own fill.sh prints them over the translation ee59ebd7827f5343… (all of the seat's roots in one cut). By AI agents, Wed Nov 11 2026. No macro, syntax, notation, axiom, sorry.
-/
import Derived.Test.YtdnpcpehjjildaaChecked
import GoSem.Claim
import GoSem.ClaimJoined
import GoSem.ClaimMapViews
import Derived.JoinedTies
import Derived.KernelRfl
namespace Go.Proofs.Ytdnpcpehjjildaa
/- THE CELL 'sum', in the pinned program and in every row, IS THE sha256 OF THE DUMP (.gsa) THAT YtdnpcpehjjildaaProg.lean LOADS. Nothing in Lean hashes anything: it is a label: what it is worth is what the hold of that sum in a sandbox is worth. -/
noncomputable def Try.pinned : Pinned := { name := "ytdnpcpehjjildaa", sum := "ee59ebd7827f53434f6fd5dbc5401e3846c5a01101799afdbcf2adb6ae3d1a32", checked := Try.checked }
namespace Rows
def none {H : Type} : Left H := { results := [], args := [] }

/-- 'footwaylaw11.RoleTells': WHATEVER THE INPUT: true; the input reads as it did. -/
def roleTellsSpec : ChangeSpec := { name := "roleTells", fn := fun _ => fun
  | [d1, d2, d3] => { results := [.lit (.bool true)], args := [d1, d2, d3] }
  | _ => none }
def roleTellsRow : OpenClaim := { program := "ytdnpcpehjjildaa", sum := "ee59ebd7827f53434f6fd5dbc5401e3846c5a01101799afdbcf2adb6ae3d1a32", func := "footway/footwaylaw11.RoleTells", spec := "roleTells", unfollowed := true, recurses := true, apart := false }
def RoleTellsSaid : Prop := roleTellsRow.holds Try.pinned (OpenSpec.ofChange roleTellsSpec)

/-- ITS FALSE NEIGHBOUR: 'it returns false'. Refute it at one input. -/
def roleTellsWrong : ChangeSpec := { name := "roleTells", fn := fun _ => fun
  | [d1, d2, d3] => { results := [.lit (.bool false)], args := [d1, d2, d3] }
  | _ => none }
def RoleTellsWrongFalsely : Prop := roleTellsRow.holds Try.pinned (OpenSpec.ofChange roleTellsWrong)

/-- 'footwaylaw11.RoleRoot': WHATEVER THE INPUT: true; the input reads as it did. -/
def roleRootSpec : ChangeSpec := { name := "roleRoot", fn := fun _ => fun
  | [d] => { results := [.lit (.bool true)], args := [d] }
  | _ => none }
def roleRootRow : OpenClaim := { program := "ytdnpcpehjjildaa", sum := "ee59ebd7827f53434f6fd5dbc5401e3846c5a01101799afdbcf2adb6ae3d1a32", func := "footway/footwaylaw11.RoleRoot", spec := "roleRoot", unfollowed := true, recurses := true, apart := false }
def RoleRootSaid : Prop := roleRootRow.holds Try.pinned (OpenSpec.ofChange roleRootSpec)

/-- ITS FALSE NEIGHBOUR: 'it returns false'. Refute it at one input. -/
def roleRootWrong : ChangeSpec := { name := "roleRoot", fn := fun _ => fun
  | [d] => { results := [.lit (.bool false)], args := [d] }
  | _ => none }
def RoleRootWrongFalsely : Prop := roleRootRow.holds Try.pinned (OpenSpec.ofChange roleRootWrong)

/-- 'footwaylaw11.RoleTold': WHATEVER THE INPUT: true; the input reads as it did. -/
def roleToldSpec : ChangeSpec := { name := "roleTold", fn := fun _ => fun
  | [d1, d2] => { results := [.lit (.bool true)], args := [d1, d2] }
  | _ => none }
def roleToldRow : OpenClaim := { program := "ytdnpcpehjjildaa", sum := "ee59ebd7827f53434f6fd5dbc5401e3846c5a01101799afdbcf2adb6ae3d1a32", func := "footway/footwaylaw11.RoleTold", spec := "roleTold", unfollowed := true, recurses := true, apart := false }
def RoleToldSaid : Prop := roleToldRow.holds Try.pinned (OpenSpec.ofChange roleToldSpec)

/-- ITS FALSE NEIGHBOUR: 'it returns false'. Refute it at one input. -/
def roleToldWrong : ChangeSpec := { name := "roleTold", fn := fun _ => fun
  | [d1, d2] => { results := [.lit (.bool false)], args := [d1, d2] }
  | _ => none }
def RoleToldWrongFalsely : Prop := roleToldRow.holds Try.pinned (OpenSpec.ofChange roleToldWrong)

/-- 'footwaylaw11.RoleBetter': WHATEVER THE INPUT: true; the input reads as it did. -/
def roleBetterSpec : ChangeSpec := { name := "roleBetter", fn := fun _ => fun
  | [d1, d2, d3] => { results := [.lit (.bool true)], args := [d1, d2, d3] }
  | _ => none }
def roleBetterRow : OpenClaim := { program := "ytdnpcpehjjildaa", sum := "ee59ebd7827f53434f6fd5dbc5401e3846c5a01101799afdbcf2adb6ae3d1a32", func := "footway/footwaylaw11.RoleBetter", spec := "roleBetter", unfollowed := true, recurses := true, apart := false }
def RoleBetterSaid : Prop := roleBetterRow.holds Try.pinned (OpenSpec.ofChange roleBetterSpec)

/-- ITS FALSE NEIGHBOUR: 'it returns false'. Refute it at one input. -/
def roleBetterWrong : ChangeSpec := { name := "roleBetter", fn := fun _ => fun
  | [d1, d2, d3] => { results := [.lit (.bool false)], args := [d1, d2, d3] }
  | _ => none }
def RoleBetterWrongFalsely : Prop := roleBetterRow.holds Try.pinned (OpenSpec.ofChange roleBetterWrong)

/- THE SECOND FORM. 'bulk': how many values and letters a reading holds, each counted each time it is reached (what is shared counts as often as it is met; a slice's spare places count too). A statement '..UptoSaid' is the law's where the arguments, and the package variables that the reading takes, are together of bulk at most 1048576: NARROWER than '..Said'. Prove '..Said' where nothing that the law and all that it calls make is longer than what came in: it says more and counts as full. Else prove '..UptoSaid'. A law counts once. -/
mutual
def uptoBulk {H : Type} : DataW H → Nat
  | .lit (.string bytes) => bytes.length + 1
  | .lit _ => 1
  | .nil => 1
  | .ptr d => uptoBulk d + 1
  | .slice elems spare => uptoBulkAll elems + uptoBulkAll spare + 1
  | .agg parts => uptoBulkAll parts + 1
  | .iface _ d => uptoBulk d + 1
  | .map entries => uptoBulkEntries entries + 1
  | .held _ => 1
def uptoBulkAll {H : Type} : List (DataW H) → Nat
  | [] => 0
  | d :: r => uptoBulk d + uptoBulkAll r
def uptoBulkEntries {H : Type} : List (Lit × DataW H) → Nat
  | [] => 0
  | x :: r => uptoBulkEntry x + uptoBulkEntries r
def uptoBulkEntry {H : Type} : Lit × DataW H → Nat
  | (.string bytes, d) => bytes.length + uptoBulk d + 1
  | (_, d) => uptoBulk d + 1
 end
def uptoSmall : (H : Type) → List (DataW H) → Bool := fun _ ds => decide (uptoBulkAll ds ≤ 1048576)
def OpenSpec.upto (s : _root_.Go.ChangeSpec) : _root_.Go.OpenSpec := { _root_.Go.OpenSpec.ofChange s with cond := some uptoSmall }

/-- 'footwaylaw11.RoleTells', WHERE WHAT IT READS IS OF BULK AT MOST 1048576: true; the input reads as it did. -/
def roleTellsUptoRow : OpenClaim := { program := "ytdnpcpehjjildaa", sum := "ee59ebd7827f53434f6fd5dbc5401e3846c5a01101799afdbcf2adb6ae3d1a32", func := "footway/footwaylaw11.RoleTells", spec := "roleTells", unfollowed := true, recurses := true, apart := false, narrowed := true }
def RoleTellsUptoSaid : Prop := roleTellsUptoRow.holds Try.pinned (OpenSpec.upto roleTellsSpec)

/-- 'footwaylaw11.RoleRoot', WHERE WHAT IT READS IS OF BULK AT MOST 1048576: true; the input reads as it did. -/
def roleRootUptoRow : OpenClaim := { program := "ytdnpcpehjjildaa", sum := "ee59ebd7827f53434f6fd5dbc5401e3846c5a01101799afdbcf2adb6ae3d1a32", func := "footway/footwaylaw11.RoleRoot", spec := "roleRoot", unfollowed := true, recurses := true, apart := false, narrowed := true }
def RoleRootUptoSaid : Prop := roleRootUptoRow.holds Try.pinned (OpenSpec.upto roleRootSpec)

/-- 'footwaylaw11.RoleTold', WHERE WHAT IT READS IS OF BULK AT MOST 1048576: true; the input reads as it did. -/
def roleToldUptoRow : OpenClaim := { program := "ytdnpcpehjjildaa", sum := "ee59ebd7827f53434f6fd5dbc5401e3846c5a01101799afdbcf2adb6ae3d1a32", func := "footway/footwaylaw11.RoleTold", spec := "roleTold", unfollowed := true, recurses := true, apart := false, narrowed := true }
def RoleToldUptoSaid : Prop := roleToldUptoRow.holds Try.pinned (OpenSpec.upto roleToldSpec)

/-- 'footwaylaw11.RoleBetter', WHERE WHAT IT READS IS OF BULK AT MOST 1048576: true; the input reads as it did. -/
def roleBetterUptoRow : OpenClaim := { program := "ytdnpcpehjjildaa", sum := "ee59ebd7827f53434f6fd5dbc5401e3846c5a01101799afdbcf2adb6ae3d1a32", func := "footway/footwaylaw11.RoleBetter", spec := "roleBetter", unfollowed := true, recurses := true, apart := false, narrowed := true }
def RoleBetterUptoSaid : Prop := roleBetterUptoRow.holds Try.pinned (OpenSpec.upto roleBetterSpec)

end Rows
end Go.Proofs.Ytdnpcpehjjildaa
