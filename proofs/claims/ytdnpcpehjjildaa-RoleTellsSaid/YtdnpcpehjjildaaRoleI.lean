/-
  The contracts of role's own functions.
-/
import Derived.Test.YtdnpcpehjjildaaRoleIF
namespace Go.Proofs.Ytdnpcpehjjildaa.RoleP
open Go.Proofs.Ytdnpcpehjjildaa.MacP (arr_out Wrote)
open Go.RowKit Go.Sort Go.Proofs.Ytdnpcpehjjildaa.SliceP Go.Proofs.Ytdnpcpehjjildaa.BoxP Go.Proofs.Ytdnpcpehjjildaa.VecP
open Go.Proofs.Ytdnpcpehjjildaa.IntP (RowI SlI OwnI)
open Go.Proofs.Ytdnpcpehjjildaa.BoolP (RowB SlB)
set_option linter.unusedVariables false
set_option maxRecDepth 100000
theorem role_c : RoleC where
  right a := o_right a.r a.l
  root_ok h a := o_root_ok h a.l a.r
  root_no h a := o_root_no h a.l a.r
  roles_ok h a := o_roles_ok h a.l a.r
  roles_no h a := o_roles_no h a.l a.r
  tell_ok h a hp h1 h2 := o_tell_ok h hp h1 h2 a.l a.r
  tell_no h a := o_tell_no h a.l a.r
  tell_range h a hp := o_tell_range h hp a.l a.r
  tell_arg h a hp hm := o_tell_arg h hp hm a.l a.r
end Go.Proofs.Ytdnpcpehjjildaa.RoleP
