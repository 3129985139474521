/-
  The first two statements of layer 12, by stp's contracts (XStpZ: stp_c : StpC).
-/
import Derived.Test.YtidoaccidmmalaaStpZ
import Derived.Test.YtidoaccidmmalaaStpO
import Derived.Test.YtidoaccidmmalaaStpH
import Derived.Test.YtidoaccidmmalaaStpT
namespace Go.Proofs.Ytidoaccidmmalaa.StpP
open Go.RowKit Go.Sort Go.Proofs.Ytidoaccidmmalaa.BoxP Go.Proofs.Ytidoaccidmmalaa.VecP Go.Proofs.Ytidoaccidmmalaa.RoleP
set_option linter.unusedVariables false
set_option maxRecDepth 100000
theorem hears_go (id : Int) (l : Value) (m d : Int) (v : Value) (p : Int) (c : Value) {w : World} (_h0 : (Lit.int .i64 id).wf = true) (hl : IntP.InI w l) (_h2 : (Lit.int .i64 m).wf = true) (_h3 : (Lit.int .i64 d).wf = true) (hv : InTree w v) (_h5 : (Lit.int .i64 p).wf = true) (hc : InCfg c) :
    Calls Try.prog 3 #[.int .i64 id, l, .int .i64 m, .int .i64 d, v, .int .i64 p, c] w (True1 w) := by
  obtain ⟨A, L, cL, rfl, hL, hcL⟩ := in_row hl
  obtain ⟨t, AC, cC, AU, cU, AI, cI, AS, cS, rfl, hI⟩ := hv
  obtain ⟨x, a, rfl⟩ := hc
  exact hears_law stp_c hI hL hcL id m d p x a
theorem ticks_go (v : Value) (p : Int) (up : Bool) {w : World} (hv : InTree w v) (_h1 : (Lit.int .i64 p).wf = true) :
    Calls Try.prog 4 #[v, .int .i64 p, .bool up] w (True1 w) := by
  obtain ⟨t, AC, cC, AU, cU, AI, cI, AS, cS, rfl, hI⟩ := hv
  exact ticks_law stp_c hI p up
end Go.Proofs.Ytidoaccidmmalaa.StpP
