/-
  QueueTells whole.
-/
import Derived.Test.YtimpngmmmoaejaaQueueTY
import Derived.Test.YtimpngmmmoaejaaQueueTL
import Derived.Test.YtimpngmmmoaejaaQueueTG
namespace Go.Proofs.Ytimpngmmmoaejaa.ChanP
open Go.RowKit Go.Sort Go.Conc Go.Proofs.Ytimpngmmmoaejaa.SliceP Go.Proofs.Ytimpngmmmoaejaa.BoxP Go.Proofs.Ytimpngmmmoaejaa.StrP
theorem tells_law (n : Int) (v : Value) (s : ByteArray) {w : World} (_h0 : (Lit.int .i64 n).wf = true) (h : InQ w v) (hs : s.size ≤ maxLen) :
    Calls Try.prog 3 #[.int .i64 n, v, .string s] w (IntP.True1 w) := by
  have hs' : s.size ≤ 9223372036854775807 := by unfold maxLen at hs; omega
  by_cases h1 : n < 1
  · exact tells_l n v s h hs' h1
  · by_cases h2 : 32 < n
    · exact tells_g n v s h hs' h1 h2
    · exact tells_y n v s h hs' h1 h2
end Go.Proofs.Ytimpngmmmoaejaa.ChanP
