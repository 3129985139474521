/-
  Contracts of footwayref06's functions, of lru's has, without, and of what they call.
-/
import Derived.Test.YtajihgpkaklgiaaInts
import Derived.IntWalk
namespace Go.Proofs.Ytajihgpkaklgiaa.LruP
open Go.RowKit Go.Sort Go.Proofs.Ytajihgpkaklgiaa.SliceP Go.Proofs.Ytajihgpkaklgiaa.IntP
set_option linter.unusedVariables false
set_option maxRecDepth 100000

def hasI (l : List Int) (x : Int) : Bool := l.any fun y => y == x
def placeI (l : List Int) (x : Int) : Int := if hasI l x then (l.findIdx fun y => y == x : Nat) else -1
theorem beq_swap (x y : Int) : (x == y) = (y == x) := by
  by_cases h : x = y
  · subst h; rfl
  · rw [beq_eq_false_iff_ne.2 h, beq_eq_false_iff_ne.2 (Ne.symm h)]
theorem has_more {l : List Int} {k : Nat} {y x : Int} (h : hasI (l.take k) x = false) (hx : l[k]? = some y) (hn : (y == x) = false) : hasI (l.take (k + 1)) x = false := by
  unfold hasI at *
  rw [List.take_add_one, hx, List.any_append, h]; simp [hn]
theorem has_hit {l : List Int} {k : Nat} {y x : Int} (hx : l[k]? = some y) (hn : (y == x) = true) : hasI l x = true := by
  unfold hasI; rw [List.any_eq_true]; exact ⟨y, List.mem_of_getElem? hx, hn⟩
theorem has_true {l : List Int} {x : Int} : hasI l x = true ↔ x ∈ l := by
  unfold hasI; rw [List.any_eq_true]
  constructor
  · rintro ⟨y, hy, h⟩; have := eq_of_beq h; subst this; exact hy
  · intro h; exact ⟨x, h, by simp⟩
theorem has_false {l : List Int} {x : Int} : hasI l x = false ↔ x ∉ l := by
  rw [← has_true]; cases hasI l x <;> simp
theorem has_end {l : List Int} {x : Int} (h : hasI (l.take l.length) x = false) : hasI l x = false := by rwa [List.take_length] at h
theorem place_hit {l : List Int} {k : Nat} {y x : Int} (h : hasI (l.take k) x = false) (hx : l[k]? = some y) (hn : (y == x) = true) : placeI l x = k := by
  have hk : k < l.length := (List.getElem?_eq_some_iff.1 hx).1
  have e : l[k] = y := by rw [List.getElem?_eq_getElem hk] at hx; exact Option.some.inj hx
  unfold placeI
  rw [if_pos (has_hit hx hn)]
  congr 1
  refine (List.findIdx_eq hk).2 ⟨by rw [e]; exact hn, fun j hj => ?_⟩
  unfold hasI at h
  rw [List.any_eq_false] at h
  have := h l[j] (by rw [List.mem_take_iff_getElem]; exact ⟨j, by omega, rfl⟩)
  simpa using this
theorem place_none {l : List Int} {x : Int} (h : hasI (l.take l.length) x = false) : placeI l x = -1 := by
  rw [List.take_length] at h
  unfold placeI; rw [h]; rfl
theorem place_geq {l : List Int} {x : Int} : decide (0 ≤ placeI l x) = hasI l x := by
  unfold placeI; cases hasI l x <;> simp

set_option maxHeartbeats 2000000 in
theorem ref_has_is {A : Option Addr} {n cap : Nat} {l : List Int} {w : World} (h : RowI w A n cap l) (x : Int) (b : Bool) (hb : hasI l x = b) (hl : l.length ≤ 1000000) :
    Calls Try.prog 15 #[.slice A n cap, .int .i64 x] w fun e w' => e = .returned (.bool b) ∧ w = w' := by
  obtain ⟨rfl, h, _, _⟩ := h
  subst hb
  have H := Lib.hid h
  clear h
  go_enter Try.func15, Try.ntmps15
  go_wp2_with fail
  go_loop [9] (fun i => ∃ k : Nat, k ≤ l.length ∧ i = .int .i64 k ∧ hasI (l.take k) x = false) (fun i => l.length - (intOf i).toNat)
  case atStart => exact ⟨0, by omega, rfl, rfl⟩
  case round =>
    obtain ⟨k, hk, rfl, hno⟩ := hrel
    replace hno := Lib.hid hno
    by_cases hlk : k < l.length
    · obtain ⟨y, hy⟩ : ∃ y, l[k]? = some y := ⟨_, List.getElem?_eq_getElem hlk⟩
      obtain ⟨b, o, rfl, hbw, x0⟩ := SlI.at_ H.out hy
      replace hy := Lib.hid hy
      cases hh : y == x
      all_goals
        go_wp2_with fail
      · go_round
        case rel => exact ⟨k + 1, by omega, by go_num, has_more hno.out hy.out hh⟩
        case measure => simp [intOf]; omega
      · go_ret
        exact ⟨by rw [has_hit hy.out hh]; rfl, rfl⟩
    · obtain rfl : k = l.length := by omega
      go_wp2_with fail
      go_ret
      exact ⟨by rw [has_end hno.out]; rfl, rfl⟩

def without (l : List Int) (x : Int) : List Int := l.filter fun y => y != x
theorem without_yes {l : List Int} {k : Nat} {y x : Int} (hx : l[k]? = some y) (hn : (y != x) = true) : without (l.take (k + 1)) x = without (l.take k) x ++ [y] := by
  unfold without
  rw [List.take_add_one, hx, List.filter_append]; simp [hn]
theorem without_no {l : List Int} {k : Nat} {y x : Int} (hx : l[k]? = some y) (hn : (y != x) = false) : without (l.take (k + 1)) x = without (l.take k) x := by
  unfold without
  rw [List.take_add_one, hx, List.filter_append]; simp [hn]
theorem without_length (l : List Int) (x : Int) : (without l x).length ≤ l.length := List.length_filter_le _ _

set_option maxHeartbeats 2000000 in
theorem ref_without_any {A : Option Addr} {n cap : Nat} {l : List Int} {w : World} (h : RowI w A n cap l) (x : Int) (hl : l.length ≤ 1000) :
    Calls Try.prog 16 #[.slice A n cap, .int .i64 x] w (RetI w (without l x)) := by
  obtain ⟨rfl, h, _, _⟩ := h
  have H := Lib.hid h
  clear h
  have O0 := own_lit w #[] [] w.heap.size 0 (Nat.le_refl _) rfl rfl (by simp)
  have B0 : Below w.heap.size w (w.alloc (.cells #[] 3)) := (Below.refl _ _).alloc (Nat.le_refl _) _
  replace O0 := Lib.hid O0
  go_enter Try.func16, Try.ntmps16
  go_wp2_with fail
  go_loopw [5, 11] (fun v i wr => ∃ k : Nat, k ≤ l.length ∧ i = .int .i64 k ∧ OwnI wr w.heap.size v (without (l.take k) x) ∧ Below w.heap.size w wr) (fun _ i _ => l.length - (intOf i).toNat)
  case atStart => exact ⟨0, by omega, rfl, O0.out, B0⟩
  case round =>
    obtain ⟨k, hk, rfl, hown, hb⟩ := hrel
    replace hown := Lib.hid hown
    by_cases hlk : k < l.length
    · obtain ⟨y, hy⟩ : ∃ y, l[k]? = some y := ⟨_, List.getElem?_eq_getElem hlk⟩
      obtain ⟨b, o, rfl, hbw, x0⟩ := SlI.at_ H.out hy
      replace x0 := (hb.cell (p := ⟨b, _, none⟩) hbw).trans x0
      have hs := hb.size
      have hlen := without_length (l.take k) x
      rw [List.length_take] at hlen
      replace hlen : (without (l.take k) x).length ≤ 1000 := by omega
      cases hh : (y != x)
      · have hn := Lib.hid (without_no hy hh)
        clear hy
        go_wp2_with fail
        go_roundw
        case rel => exact ⟨k + 1, by omega, by go_num, by rw [hn.out]; exact hown.out, hb⟩
        case measure => simp [intOf]; omega
      · have hn := Lib.hid (without_yes hy hh)
        clear hy
        have own2 := Lib.hid (hown.out.below ((Below.refl _ _).alloc (Nat.le_refl _) (.cells #[.int .i64 y] 3)))
        have hn1 : Hid ((cI (without (l.take k) x)).length + (cI [y]).length ≤ 1000000) := Lib.hid (by rw [cI_length, cI_length]; simp; omega)
        have hB2 : Hid (w.heap.size ≤ (wr.alloc (.cells #[.int .i64 y] 3)).heap.size) := Lib.hid (by simp; omega)
        have hsl := Lib.hid (SlI.one wr y wr.heap.size rfl)
        go_wp2_with (at_builtin; (refine wpList_append_sl rfl (.tmp 18) (.tmp 20) 24 rfl elI (by rfl) own2.out (by rfl) (by rfl) hsl.out (IntP.whole [y]) (fun h => by cases h) hn1.out hB2.out ?_); intro v' w1 own1 grow1 _)
        have B1 : Below w.heap.size w w1 := (hb.alloc hs _).grown grow1 (by simp; omega) (fun k hk => (hown.out.lt k hk).1)
        go_roundw
        case rel => exact ⟨k + 1, by omega, by go_num, by rw [hn.out]; rw [← cI_append] at own1; exact own1, B1⟩
        case measure => simp [intOf]; omega
    · obtain rfl : k = l.length := by omega
      rw [List.take_length] at hown
      go_wp2_with fail
      go_ret
      exact retI hown.out hb
end Go.Proofs.Ytajihgpkaklgiaa.LruP
