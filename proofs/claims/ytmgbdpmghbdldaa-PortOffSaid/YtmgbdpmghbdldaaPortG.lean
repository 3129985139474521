/-
  The three statements of layer 10, by port's contracts.
-/
import Derived.Test.YtmgbdpmghbdldaaPortP
import Derived.Test.YtmgbdpmghbdldaaPortT
import Derived.Test.YtmgbdpmghbdldaaPortO
import Derived.Test.YtmgbdpmghbdldaaPortW
namespace Go.Proofs.Ytmgbdpmghbdldaa.PortP
open Go.RowKit Go.Sort Go.Proofs.Ytmgbdpmghbdldaa.BoxP
set_option linter.unusedVariables false
set_option maxRecDepth 100000
theorem tells_go (s l d : Int) (act : Bool) {w : World} (_h0 : (Lit.int .i64 s).wf = true) (_h1 : (Lit.int .i64 l).wf = true) (_h2 : (Lit.int .i64 d).wf = true) : Calls Try.prog 3 #[sv s l, .int .i64 d, .bool act] w (True1 w) := tells_any port_c s l d act w
theorem off_go (s l d : Int) {w : World} (_h0 : (Lit.int .i64 s).wf = true) (_h1 : (Lit.int .i64 l).wf = true) (_h2 : (Lit.int .i64 d).wf = true) : Calls Try.prog 5 #[sv s l, .int .i64 d] w (True1 w) := off_any port_c s l d w
theorem waits_go (n : Int) (v : Value) {w : World} (h0 : (Lit.int .i64 n).wf = true) (h : BoolP.InB w v) : Calls Try.prog 4 #[.int .i64 n, v] w (True1 w) := waits_law port_c n v h0 h
end Go.Proofs.Ytmgbdpmghbdldaa.PortP
