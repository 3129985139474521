/-
  Contracts of lan's Loops, Part, On.
-/
import Derived.Test.YtgcmklliafcffaaLanI
import Derived.BigRegion
namespace Go.Proofs.Ytgcmklliafcffaa.LanP
open Go.Proofs.Ytgcmklliafcffaa.MacP (arr_out Wrote wp_region_ends outM)
open Go.RowKit Go.Sort Go.Proofs.Ytgcmklliafcffaa.SliceP Go.Proofs.Ytgcmklliafcffaa.BoxP
open Go.Proofs.Ytgcmklliafcffaa.IntP (RowI SlI OwnI)
open Go.Proofs.Ytgcmklliafcffaa.BoolP (RowB SlB OwnB)
open Go.Proofs.Ytgcmklliafcffaa.MacP (classI class_yes class_no ref_right_no ref_right_yes ref_class)
open Go.Proofs.Ytgcmklliafcffaa.LruP (hasI placeI has_more has_hit place_hit place_none place_geq has_true has_false)
set_option linter.unusedVariables false
set_option maxRecDepth 100000
def upsTo (l : List P) : Int := (l.map fun p => ((ups p).length : Int)).sum
def brTo (l : List P) : Int := ((l.map fun p => (min (ups p).length 1 : Nat) : List Nat).map Int.ofNat).sum
theorem upsTo_succ {l : List P} {k : Nat} {p : P} (h : l[k]? = some p) : upsTo (l.take (k + 1)) = upsTo (l.take k) + (ups p).length := by
  unfold upsTo; rw [List.take_add_one, h, List.map_append, List.sum_append]; simp
theorem brTo_succ {l : List P} {k : Nat} {p : P} (h : l[k]? = some p) : brTo (l.take (k + 1)) = brTo (l.take k) + (min (ups p).length 1 : Nat) := by
  unfold brTo; rw [List.take_add_one, h, List.map_append, List.map_append, List.sum_append]; simp
theorem upsTo_bd {l : List P} (h : ∀ p ∈ l, p.ports.length ≤ 10) : ∀ k, 0 ≤ upsTo (l.take k) ∧ upsTo (l.take k) ≤ k * 10
  | 0 => by simp [upsTo]
  | k + 1 => by
    have ih := upsTo_bd h k
    cases hk : l[k]? with
    | none => rw [List.take_of_length_le (by have := List.getElem?_eq_none_iff.1 hk; omega)]; rw [List.take_of_length_le (by have := List.getElem?_eq_none_iff.1 hk; omega)] at ih; omega
    | some p =>
      rw [upsTo_succ hk]
      have := h p (List.mem_of_getElem? hk)
      have := ups_len p
      omega
theorem brTo_bd (l : List P) : ∀ k, 0 ≤ brTo (l.take k) ∧ brTo (l.take k) ≤ k
  | 0 => by simp [brTo]
  | k + 1 => by
    have ih := brTo_bd l k
    cases hk : l[k]? with
    | none => rw [List.take_of_length_le (by have := List.getElem?_eq_none_iff.1 hk; omega)]; rw [List.take_of_length_le (by have := List.getElem?_eq_none_iff.1 hk; omega)] at ih; omega
    | some p => rw [brTo_succ hk]; omega
end Go.Proofs.Ytgcmklliafcffaa.LanP
