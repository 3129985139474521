/-
  FdbKeeps whole.
-/
import Derived.Test.YtnghilcjecjljaaFdbRM
import Derived.Test.YtnghilcjecjljaaFdbRN
namespace Go.Proofs.Ytnghilcjecjljaa.FdbP
open Go.RowKit Go.Sort Go.Proofs.Ytnghilcjecjljaa.SliceP Go.Proofs.Ytnghilcjecjljaa.MacP
set_option linter.unusedVariables false

theorem keeps_law (v : Value) (a port now : Int) {w : World} (h : InTab w v) (_h4 : (Lit.int .i64 a).wf = true) (_h5 : (Lit.int .i64 port).wf = true) (_h6 : (Lit.int .i64 now).wf = true) :
    Calls Try.prog 4 #[v, .int .i64 a, .int .i64 port, .int .i64 now] w (IntP.True1 w) := by
  cases htm : timeB now with
  | false => exact keeps_f v a port now h htm
  | true => exact keeps_t v a port now h htm
end Go.Proofs.Ytnghilcjecjljaa.FdbP
