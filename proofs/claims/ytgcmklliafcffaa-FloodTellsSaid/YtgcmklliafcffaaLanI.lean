/-
  Contracts of lan's countParts, Parts, Loops, Part, On.
-/
import Derived.Test.YtgcmklliafcffaaLanH
import Derived.BigRegion
namespace Go.Proofs.Ytgcmklliafcffaa.LanP
open Go.Proofs.Ytgcmklliafcffaa.MacP (arr_out Wrote wp_region_ends outM)
open Go.RowKit Go.Sort Go.Proofs.Ytgcmklliafcffaa.SliceP Go.Proofs.Ytgcmklliafcffaa.BoxP
open Go.Proofs.Ytgcmklliafcffaa.IntP (RowI SlI OwnI)
open Go.Proofs.Ytgcmklliafcffaa.BoolP (RowB SlB OwnB)
open Go.Proofs.Ytgcmklliafcffaa.MacP (classI class_yes class_no ref_right_no ref_right_yes ref_class)
open Go.Proofs.Ytgcmklliafcffaa.LruP (hasI placeI has_more has_hit place_hit place_none place_geq has_true has_false)
set_option linter.unusedVariables false
set_option maxRecDepth 100000
theorem o_leasts8 {l : L} {A : Option Addr} {c : Nat} {B : Option Addr} {d : Nat} {w : World} (hr : LanR w l A c B d) (hs : Small l) (hf : l.fit) (h8 : l.n ≤ 8) {f : Nat → Int} (hl : labF l = f) :
    Calls Try.prog 63 #[lv l A c B d] w fun e w' => e = .returned (.agg #[.int .i64 (f 0), .int .i64 (f 1), .int .i64 (f 2), .int .i64 (f 3), .int .i64 (f 4), .int .i64 (f 5), .int .i64 (f 6), .int .i64 (f 7)]) ∧ Below w.heap.size w w' := by
  subst hl
  exact o_leasts hr hs hf h8
theorem ok_small8 {l : L} (h : l.ok = true) : l.n ≤ 8 := by have := ok_segs h; omega
theorem labF_at {l : L} {f : Nat → Int} (hl : labF l = f) {k : Nat} (hk : k < l.n) : f k = lab l.pairs k := by rw [← hl]; unfold labF; rw [if_pos hk]
end Go.Proofs.Ytgcmklliafcffaa.LanP
