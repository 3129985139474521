/-
  VecTells whole.
-/
import Derived.Test.YtanceablbmgblaaVecTB
import Derived.Test.YtanceablbmgblaaVecTC
namespace Go.Proofs.Ytanceablbmgblaa.VecP
open Go.RowKit Go.Sort Go.Proofs.Ytanceablbmgblaa.SliceP
set_option linter.unusedVariables false
set_option maxRecDepth 100000

theorem tells_none (r c b p r2 c2 b2 p2 n : Int) (A : Option Addr) (n0 cap : Nat) (w : World) (hfew : ∀ w, Calls Try.prog 7 #[.slice A n0 cap] w fun e w' => e = .returned (.slice A 0 cap) ∧ w = w') :
    Calls Try.prog 3 #[vv r c b p, vv r2 c2 b2 p2, .int .i64 n, .slice A n0 cap] w fun e w' => e = .returned (.bool true) ∧ Below w.heap.size w w' := by
  cases ha : okV r c b p
  · exact tells_n_none r c b p r2 c2 b2 p2 n A n0 cap w ha hfew
  · cases hb : okV r2 c2 b2 p2
    · by_cases h1 : 0 ≤ n
      · by_cases h2 : n ≤ 2147483647
        · exact tells_yny_none r c b p r2 c2 b2 p2 n A n0 cap w ha hb h1 h2 hfew
        · exact tells_ynh_none r c b p r2 c2 b2 p2 n A n0 cap w ha hb h1 (by omega) hfew
      · exact tells_ynl_none r c b p r2 c2 b2 p2 n A n0 cap w ha hb (by omega) hfew
    · by_cases h1 : 0 ≤ n
      · by_cases h2 : n ≤ 2147483647
        · exact tells_yyy_none r c b p r2 c2 b2 p2 n A n0 cap w ha hb h1 h2 hfew
        · exact tells_yyh_none r c b p r2 c2 b2 p2 n A n0 cap w ha hb h1 (by omega) hfew
      · exact tells_yyl_none r c b p r2 c2 b2 p2 n A n0 cap w ha hb (by omega) hfew
theorem tells_bad (r c b p r2 c2 b2 p2 n : Int) (A : Option Addr) (n0 cap : Nat) (w : World) (l : List V) (hl : l.length ≤ 60) (hlc : l.length ≤ cap) (hS : SlV w A l) (hok : l.all V.ok = false) (hfew : ∀ w, Calls Try.prog 7 #[.slice A n0 cap] w fun e w' => e = .returned (.slice A l.length cap) ∧ w = w') :
    Calls Try.prog 3 #[vv r c b p, vv r2 c2 b2 p2, .int .i64 n, .slice A n0 cap] w fun e w' => e = .returned (.bool true) ∧ Below w.heap.size w w' := by
  cases ha : okV r c b p
  · exact tells_n_bad r c b p r2 c2 b2 p2 n A n0 cap w ha l hl hlc hS hok hfew
  · cases hb : okV r2 c2 b2 p2
    · by_cases h1 : 0 ≤ n
      · by_cases h2 : n ≤ 2147483647
        · exact tells_yny_bad r c b p r2 c2 b2 p2 n A n0 cap w ha hb h1 h2 l hl hlc hS hok hfew
        · exact tells_ynh_bad r c b p r2 c2 b2 p2 n A n0 cap w ha hb h1 (by omega) l hl hlc hS hok hfew
      · exact tells_ynl_bad r c b p r2 c2 b2 p2 n A n0 cap w ha hb (by omega) l hl hlc hS hok hfew
    · by_cases h1 : 0 ≤ n
      · by_cases h2 : n ≤ 2147483647
        · exact tells_yyy_bad r c b p r2 c2 b2 p2 n A n0 cap w ha hb h1 h2 l hl hlc hS hok hfew
        · exact tells_yyh_bad r c b p r2 c2 b2 p2 n A n0 cap w ha hb h1 (by omega) l hl hlc hS hok hfew
      · exact tells_yyl_bad r c b p r2 c2 b2 p2 n A n0 cap w ha hb (by omega) l hl hlc hS hok hfew
theorem tells_good (r c b p r2 c2 b2 p2 n : Int) (A : Option Addr) (n0 cap : Nat) (w : World) (l : List V) (hl : l.length ≤ 60) (hlc : l.length ≤ cap) (hS : SlV w A l) (hok : l.all V.ok = true) (h0 : 0 < l.length) (hfew : ∀ w, Calls Try.prog 7 #[.slice A n0 cap] w fun e w' => e = .returned (.slice A l.length cap) ∧ w = w') :
    Calls Try.prog 3 #[vv r c b p, vv r2 c2 b2 p2, .int .i64 n, .slice A n0 cap] w fun e w' => e = .returned (.bool true) ∧ Below w.heap.size w w' := by
  cases ha : okV r c b p
  · exact tells_n_good r c b p r2 c2 b2 p2 n A n0 cap w ha l hl hlc hS hok h0 hfew
  · cases hb : okV r2 c2 b2 p2
    · by_cases h1 : 0 ≤ n
      · by_cases h2 : n ≤ 2147483647
        · exact tells_yny_good r c b p r2 c2 b2 p2 n A n0 cap w ha hb h1 h2 l hl hlc hS hok h0 hfew
        · exact tells_ynh_good r c b p r2 c2 b2 p2 n A n0 cap w ha hb h1 (by omega) l hl hlc hS hok h0 hfew
      · exact tells_ynl_good r c b p r2 c2 b2 p2 n A n0 cap w ha hb (by omega) l hl hlc hS hok h0 hfew
    · by_cases h1 : 0 ≤ n
      · by_cases h2 : n ≤ 2147483647
        · exact tells_yyy_good r c b p r2 c2 b2 p2 n A n0 cap w ha hb h1 h2 l hl hlc hS hok h0 hfew
        · exact tells_yyh_good r c b p r2 c2 b2 p2 n A n0 cap w ha hb h1 (by omega) l hl hlc hS hok h0 hfew
      · exact tells_yyl_good r c b p r2 c2 b2 p2 n A n0 cap w ha hb (by omega) l hl hlc hS hok h0 hfew

theorem tells_law (r c b p r2 c2 b2 p2 n : Int) (v : Value) (w0 : (Lit.int .i64 r).wf = true) (w1 : (Lit.int .i64 c).wf = true) (w2 : (Lit.int .i64 b).wf = true) (w3 : (Lit.int .i64 p).wf = true) (x0 : (Lit.int .i64 r2).wf = true) (x1 : (Lit.int .i64 c2).wf = true) (x2 : (Lit.int .i64 b2).wf = true) (x3 : (Lit.int .i64 p2).wf = true) (y0 : (Lit.int .i64 n).wf = true) {w : World} (h : InV w v) :
    Calls Try.prog 3 #[vv r c b p, vv r2 c2 b2 p2, .int .i64 n, v] w fun e w' => e = .returned (.bool true) ∧ Below w.heap.size w w' := by
  rcases h with rfl | ⟨a, L, cap, rfl, hL, hc, hS⟩
  · exact tells_none r c b p r2 c2 b2 p2 n none 0 0 w (fun w => few_nil 0 w)
  · have e : min L.length 60 = (L.take 60).length := by rw [List.length_take]; omega
    have hS' := hS.take 60
    have hfew : ∀ w, Calls Try.prog 7 #[.slice (some a) L.length cap] w fun e w' => e = .returned (.slice (some a) (L.take 60).length cap) ∧ w = w' := fun w => by
      rw [← e]; exact few_any a L.length cap w hL hc
    by_cases h0 : L = []
    · subst h0; exact tells_none r c b p r2 c2 b2 p2 n (some a) 0 cap w hfew
    · have hp : 0 < L.length := List.length_pos_iff.2 h0
      cases hok : (L.take 60).all V.ok
      · exact tells_bad r c b p r2 c2 b2 p2 n (some a) L.length cap w _ (by omega) (by omega) hS' hok hfew
      · exact tells_good r c b p r2 c2 b2 p2 n (some a) L.length cap w _ (by omega) (by omega) hS' hok (by omega) hfew
end Go.Proofs.Ytanceablbmgblaa.VecP
