/-
  Contracts of footwayref06's functions, of lru's has, without, and of what they call.
-/
import Derived.Test.YtgcmklliafcffaaInts
import Derived.IntWalk
namespace Go.Proofs.Ytgcmklliafcffaa.LruP
open Go.RowKit Go.Sort Go.Proofs.Ytgcmklliafcffaa.SliceP Go.Proofs.Ytgcmklliafcffaa.IntP
set_option linter.unusedVariables false
set_option maxRecDepth 100000

def hasI (l : List Int) (x : Int) : Bool := l.any fun y => y == x
def placeI (l : List Int) (x : Int) : Int := if hasI l x then (l.findIdx fun y => y == x : Nat) else -1
theorem beq_swap (x y : Int) : (x == y) = (y == x) := by
  by_cases h : x = y
  · subst h; rfl
  · rw [beq_eq_false_iff_ne.2 h, beq_eq_false_iff_ne.2 (Ne.symm h)]
theorem has_more {l : List Int} {k : Nat} {y x : Int} (h : hasI (l.take k) x = false) (hx : l[k]? = some y) (hn : (y == x) = false) : hasI (l.take (k + 1)) x = false := by
  unfold hasI at *
  rw [List.take_add_one, hx, List.any_append, h]; simp [hn]
theorem has_hit {l : List Int} {k : Nat} {y x : Int} (hx : l[k]? = some y) (hn : (y == x) = true) : hasI l x = true := by
  unfold hasI; rw [List.any_eq_true]; exact ⟨y, List.mem_of_getElem? hx, hn⟩
theorem has_true {l : List Int} {x : Int} : hasI l x = true ↔ x ∈ l := by
  unfold hasI; rw [List.any_eq_true]
  constructor
  · rintro ⟨y, hy, h⟩; have := eq_of_beq h; subst this; exact hy
  · intro h; exact ⟨x, h, by simp⟩
theorem has_false {l : List Int} {x : Int} : hasI l x = false ↔ x ∉ l := by
  rw [← has_true]; cases hasI l x <;> simp
theorem has_end {l : List Int} {x : Int} (h : hasI (l.take l.length) x = false) : hasI l x = false := by rwa [List.take_length] at h
theorem place_hit {l : List Int} {k : Nat} {y x : Int} (h : hasI (l.take k) x = false) (hx : l[k]? = some y) (hn : (y == x) = true) : placeI l x = k := by
  have hk : k < l.length := (List.getElem?_eq_some_iff.1 hx).1
  have e : l[k] = y := by rw [List.getElem?_eq_getElem hk] at hx; exact Option.some.inj hx
  unfold placeI
  rw [if_pos (has_hit hx hn)]
  congr 1
  refine (List.findIdx_eq hk).2 ⟨by rw [e]; exact hn, fun j hj => ?_⟩
  unfold hasI at h
  rw [List.any_eq_false] at h
  have := h l[j] (by rw [List.mem_take_iff_getElem]; exact ⟨j, by omega, rfl⟩)
  simpa using this
theorem place_none {l : List Int} {x : Int} (h : hasI (l.take l.length) x = false) : placeI l x = -1 := by
  rw [List.take_length] at h
  unfold placeI; rw [h]; rfl
theorem place_geq {l : List Int} {x : Int} : decide (0 ≤ placeI l x) = hasI l x := by
  unfold placeI; cases hasI l x <;> simp

set_option maxHeartbeats 2000000 in
theorem ref_has_is {A : Option Addr} {n cap : Nat} {l : List Int} {w : World} (h : RowI w A n cap l) (x : Int) (b : Bool) (hb : hasI l x = b) (hl : l.length ≤ 1000000) :
    Calls Try.prog 36 #[.slice A n cap, .int .i64 x] w fun e w' => e = .returned (.bool b) ∧ w = w' := by
  obtain ⟨rfl, h, _, _⟩ := h
  subst hb
  have H := Lib.hid h
  clear h
  go_enter Try.func36, Try.ntmps36
  go_wp2_with fail
  go_loop [9] (fun i => ∃ k : Nat, k ≤ l.length ∧ i = .int .i64 k ∧ hasI (l.take k) x = false) (fun i => l.length - (intOf i).toNat)
  case atStart => exact ⟨0, by omega, rfl, rfl⟩
  case round =>
    obtain ⟨k, hk, rfl, hno⟩ := hrel
    replace hno := Lib.hid hno
    by_cases hlk : k < l.length
    · obtain ⟨y, hy⟩ : ∃ y, l[k]? = some y := ⟨_, List.getElem?_eq_getElem hlk⟩
      obtain ⟨b, o, rfl, hbw, x0⟩ := SlI.at_ H.out hy
      replace hy := Lib.hid hy
      cases hh : y == x
      all_goals
        go_wp2_with fail
      · go_round
        case rel => exact ⟨k + 1, by omega, by go_num, has_more hno.out hy.out hh⟩
        case measure => simp [intOf]; omega
      · go_ret
        exact ⟨by rw [has_hit hy.out hh]; rfl, rfl⟩
    · obtain rfl : k = l.length := by omega
      go_wp2_with fail
      go_ret
      exact ⟨by rw [has_end hno.out]; rfl, rfl⟩

def without (l : List Int) (x : Int) : List Int := l.filter fun y => y != x
theorem without_yes {l : List Int} {k : Nat} {y x : Int} (hx : l[k]? = some y) (hn : (y != x) = true) : without (l.take (k + 1)) x = without (l.take k) x ++ [y] := by
  unfold without
  rw [List.take_add_one, hx, List.filter_append]; simp [hn]
theorem without_no {l : List Int} {k : Nat} {y x : Int} (hx : l[k]? = some y) (hn : (y != x) = false) : without (l.take (k + 1)) x = without (l.take k) x := by
  unfold without
  rw [List.take_add_one, hx, List.filter_append]; simp [hn]
theorem without_length (l : List Int) (x : Int) : (without l x).length ≤ l.length := List.length_filter_le _ _

end Go.Proofs.Ytgcmklliafcffaa.LruP
