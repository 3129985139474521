/-
  The four statements of layer 11, by role's contracts (XRoleI: role_c : RoleC).
-/
import Derived.Test.YtdnpcpehjjildaaRoleI
import Derived.Test.YtdnpcpehjjildaaRoleT
import Derived.Test.YtdnpcpehjjildaaRoleH
import Derived.Test.YtdnpcpehjjildaaRoleK
import Derived.Test.YtdnpcpehjjildaaRoleB
namespace Go.Proofs.Ytdnpcpehjjildaa.RoleP
open Go.RowKit Go.Sort Go.Proofs.Ytdnpcpehjjildaa.BoxP Go.Proofs.Ytdnpcpehjjildaa.VecP
set_option linter.unusedVariables false
set_option maxRecDepth 100000
theorem tells_go (v : Value) (p most : Int) {w : World} (h : InSelf w v) (_h1 : (Lit.int .i64 p).wf = true) (_h2 : (Lit.int .i64 most).wf = true) : Calls Try.prog 3 #[v, .int .i64 p, .int .i64 most] w (True1 w) := by
  obtain ⟨s, AC, cC, AU, cU, AI, cI, rfl, hS, hk⟩ := h
  exact tells_law role_c hS hk p most
theorem root_go (v : Value) {w : World} (h : InSelf w v) : Calls Try.prog 4 #[v] w (True1 w) := by
  obtain ⟨s, AC, cC, AU, cU, AI, cI, rfl, hS, hk⟩ := h
  exact root_law role_c hS hk
theorem told_go (v : Value) (mo : Int) {w : World} (h : InSelf w v) (_h1 : (Lit.int .i64 mo).wf = true) : Calls Try.prog 5 #[v, .int .i64 mo] w (True1 w) := by
  obtain ⟨s, AC, cC, AU, cU, AI, cI, rfl, hS, hk⟩ := h
  exact told_law role_c hS hk mo
theorem better_go (v : Value) (p r c b q : Int) {w : World} (h : InSelf w v) (_h1 : (Lit.int .i64 p).wf = true) (_h2 : (Lit.int .i64 r).wf = true) (_h3 : (Lit.int .i64 c).wf = true) (_h4 : (Lit.int .i64 b).wf = true) (_h5 : (Lit.int .i64 q).wf = true) : Calls Try.prog 6 #[v, .int .i64 p, .agg #[.int .i64 r, .int .i64 c, .int .i64 b, .int .i64 q]] w (True1 w) := by
  obtain ⟨s, AC, cC, AU, cU, AI, cI, rfl, hS, hk⟩ := h
  exact better_law role_c hS hk p ⟨r, c, b, q⟩
end Go.Proofs.Ytdnpcpehjjildaa.RoleP
