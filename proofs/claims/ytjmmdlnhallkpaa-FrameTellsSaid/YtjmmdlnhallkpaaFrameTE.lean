/-
  The walk of FrameTells.
-/
import Derived.Test.YtjmmdlnhallkpaaFrameTA
import Derived.Test.YtjmmdlnhallkpaaFrameTB
import Derived.Test.YtjmmdlnhallkpaaFrameTC
import Derived.Test.YtjmmdlnhallkpaaFrameTD
namespace Go.Proofs.Ytjmmdlnhallkpaa.MacP
open Go.RowKit
set_option linter.unusedVariables false

theorem frameTells_law (d s t : Int) (x r : ByteArray) (wd : (Lit.int .i64 d).wf = true) (ws : (Lit.int .i64 s).wf = true) (wt : (Lit.int .i64 t).wf = true) (hx : x.size ≤ maxLen) (hr : r.size ≤ maxLen) (w : World) :
    Calls Try.prog 7 #[fv d s t x, .string r] w fun e w' => e = .returned (.bool true) ∧ Below w.heap.size w w' := by
  cases ok : okB d s t (cutS x 130)
  · by_cases hn : pE (cutS r 150) = 0
    · exact frameTells_ny d s t x r w _ hx hr ok rfl hn
    · exact frameTells_nn d s t x r w _ hx hr ok rfl hn
  · by_cases hn : pE (cutS r 150) = 0
    · exact frameTells_yy d s t x r w _ hx hr ok rfl hn
    · exact frameTells_yn d s t x r w _ hx hr ok rfl hn
end Go.Proofs.Ytjmmdlnhallkpaa.MacP
