/-
  Contract of mac.Bytes.
-/
import Derived.Test.YtgcmklliafcffaaMacA
import Derived.Laws.BytesArg
import Derived.RegionTactic
import Derived.ChangeAlike
import Derived.BigRegion
import Derived.StillTailTactics
namespace Go.Proofs.Ytgcmklliafcffaa.MacP
open Go.RowKit
set_option linter.unusedVariables false
set_option maxRecDepth 100000

theorem bt {w a b : World} (h1 : Below w.heap.size w a) (h2 : Below a.heap.size a b) : Below w.heap.size w b := h1.trans (h2.mono h1.size)

def byteNums (a : Int) : List Int := [bAt a 0, bAt a 1, bAt a 2, bAt a 3, bAt a 4, bAt a 5]

end Go.Proofs.Ytgcmklliafcffaa.MacP
