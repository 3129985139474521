/-
  Contracts of footwayref11: Roles, Tell.
-/
import Derived.Test.YtidoaccidmmalaaRoleZ
namespace Go.Proofs.Ytidoaccidmmalaa.RoleP
open Go.RowKit Go.Sort Go.Proofs.Ytidoaccidmmalaa.SliceP Go.Proofs.Ytidoaccidmmalaa.BoxP Go.Proofs.Ytidoaccidmmalaa.VecP
open Go.Proofs.Ytidoaccidmmalaa.IntP (RowI SlI OwnI)
open Go.Proofs.Ytidoaccidmmalaa.BoolP (RowB SlB)
set_option linter.unusedVariables false
set_option maxRecDepth 100000
theorem role_to {s : S} {AC : Option Addr} {cC : Nat} {AU : Option Addr} {cU : Nat} {AI : Option Addr} {cI : Nat} {w : World} (hF : Fit s) (hS : SelfR w s AC cC AU cU AI cI) {p : Nat} (hp : p < s.costs.length) {n : Int} (e : s.role p = n) : Calls Try.prog 42 #[selfV s.id (.slice AC s.costs.length cC) (.slice AU s.ups.length cU) (.slice AI s.infos.length cI), .int .i64 p] w fun e w' => e = .returned (.int .i64 n) ∧ Below w.heap.size w w' := by
  subst e; exact r_role hF hS hp
end Go.Proofs.Ytidoaccidmmalaa.RoleP
