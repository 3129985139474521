/-
  The laws of layer 13 as the rows ask, by relay's contracts (XRelI: rel_c : RelC).
-/
import Derived.Test.YtajihgpkaklgiaaRelI
import Derived.Test.YtajihgpkaklgiaaRelO
import Derived.Test.YtajihgpkaklgiaaRelT
import Derived.Test.YtajihgpkaklgiaaRelN
import Derived.Test.YtajihgpkaklgiaaRelB
namespace Go.Proofs.Ytajihgpkaklgiaa.RelP
open Go.RowKit Go.Sort Go.Proofs.Ytajihgpkaklgiaa.SliceP Go.Proofs.Ytajihgpkaklgiaa.BoxP
set_option linter.unusedVariables false
set_option maxRecDepth 100000
theorem tells_go (v : Value) (p : Int) (cl : Int) (o : Int) {w : World} (hv : InRow w v) (_hp : (Lit.int .i64 p).wf = true) (_hcl : (Lit.int .i64 cl).wf = true) (_ho : (Lit.int .i64 o).wf = true) :
    Calls Try.prog 3 #[v, .int .i64 p, .int .i64 cl, .int .i64 o] w (True1 w) := by
  obtain ⟨A, c, l, rfl, hr, hc⟩ := hv
  exact tells_law rel_c hr hc p cl o
theorem never_go (v : Value) (p : Int) (cl : Int) (o : Int) {w : World} (hv : InRow w v) (_hp : (Lit.int .i64 p).wf = true) (_hcl : (Lit.int .i64 cl).wf = true) (_ho : (Lit.int .i64 o).wf = true) :
    Calls Try.prog 4 #[v, .int .i64 p, .int .i64 cl, .int .i64 o] w (True1 w) := by
  obtain ⟨A, c, l, rfl, hr, hc⟩ := hv
  exact never_law rel_c hr hc p cl o
theorem both_go (v : Value) (a : Int) (b : Int) {w : World} (hv : InRow w v) (_ha : (Lit.int .i64 a).wf = true) (_hb : (Lit.int .i64 b).wf = true) :
    Calls Try.prog 5 #[v, .int .i64 a, .int .i64 b] w (True1 w) := by
  obtain ⟨A, c, l, rfl, hr, hc⟩ := hv
  exact both_law rel_c hr hc a b
end Go.Proofs.Ytajihgpkaklgiaa.RelP
