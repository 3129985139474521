/-
  Contracts of footwayref06.Right, Back, Same, Use, of lru.Right, slices.Clone, and of the statements' few.
-/
import Derived.Test.YtajihgpkaklgiaaLruA
import Derived.WalkSpells
namespace Go.Proofs.Ytajihgpkaklgiaa.LruP
open Go.RowKit Go.Sort Go.Proofs.Ytajihgpkaklgiaa.SliceP Go.Proofs.Ytajihgpkaklgiaa.IntP
set_option linter.unusedVariables false
set_option maxRecDepth 100000

def okI (l : List Int) : Bool := decide (l.Nodup ∧ ∀ y ∈ l, 0 ≤ y)
def rightI (l : List Int) : Bool := decide (l.length ≤ 64) && okI l
theorem ok_iff {l : List Int} : okI l = true ↔ l.Nodup ∧ ∀ y ∈ l, 0 ≤ y := by unfold okI; rw [decide_eq_true_eq]
theorem ok_false {l : List Int} (h : ¬ (l.Nodup ∧ ∀ y ∈ l, 0 ≤ y)) : okI l = false := by unfold okI; rwa [decide_eq_false_iff_not]
theorem right_iff {l : List Int} : rightI l = true ↔ l.length ≤ 64 ∧ l.Nodup ∧ ∀ y ∈ l, 0 ≤ y := by
  unfold rightI; rw [Bool.and_eq_true, decide_eq_true_eq, ok_iff]
theorem take_next {l : List Int} {k : Nat} {y : Int} (hy : l[k]? = some y) : l.take (k + 1) = l.take k ++ [y] := by
  rw [List.take_add_one, hy]; rfl
theorem ok_more {l : List Int} {k : Nat} {y : Int} (h : okI (l.take k) = true) (hy : l[k]? = some y) (h0 : 0 ≤ y) (hn : hasI (l.take k) y = false) : okI (l.take (k + 1)) = true := by
  rw [ok_iff] at h ⊢
  rw [has_false] at hn
  rw [take_next hy]
  refine ⟨List.nodup_append.2 ⟨h.1, by simp, fun a ha b hb => ?_⟩, fun z hz => ?_⟩
  · rw [List.mem_singleton] at hb; subst hb; rintro rfl; exact hn ha
  · rcases List.mem_append.1 hz with hz | hz
    · exact h.2 z hz
    · rw [List.mem_singleton] at hz; subst hz; exact h0
theorem ok_neg {l : List Int} {k : Nat} {y : Int} (hy : l[k]? = some y) (h0 : y < 0) : okI l = false :=
  ok_false fun h => by have := h.2 y (List.mem_of_getElem? hy); omega
theorem ok_has {l : List Int} {k : Nat} {y : Int} (hy : l[k]? = some y) (hn : hasI (l.take k) y = true) : okI l = false :=
  ok_false fun h => by
    have h1 : (l.take (k + 1)).Nodup := h.1.sublist (List.take_sublist _ _)
    rw [take_next hy, List.nodup_append] at h1
    exact h1.2.2 y (has_true.1 hn) y (by simp) rfl
theorem ok_end {l : List Int} (h : okI (l.take l.length) = true) : okI l = true := by rwa [List.take_length] at h
theorem right_bad {l : List Int} (h : okI l = false) : rightI l = false := by unfold rightI; rw [h, Bool.and_false]
theorem right_ok {l : List Int} (h : okI l = true) (hl : l.length ≤ 64) : rightI l = true := by unfold rightI; rw [h]; simp [hl]
theorem right_big {l : List Int} (hl : 64 < l.length) : rightI l = false := by unfold rightI; simp; omega

theorem back_next {l : List Int} {j : Nat} {y : Int} (hy : l[j]? = some y) : (l.drop j).reverse = (l.drop (j + 1)).reverse ++ [y] := by
  have hj : j < l.length := (List.getElem?_eq_some_iff.1 hy).1
  have e : l[j] = y := by rw [List.getElem?_eq_getElem hj] at hy; exact Option.some.inj hy
  rw [List.drop_eq_getElem_cons hj, List.reverse_cons, e]
theorem back_length (l : List Int) (j : Nat) : (l.drop j).reverse.length ≤ l.length := by rw [List.length_reverse, List.length_drop]; omega
set_option maxHeartbeats 2000000 in
theorem same_true {A B : Option Addr} {n c1 m c2 : Nat} {l l' : List Int} {w : World} (hA : RowI w A n c1 l) (hB : RowI w B m c2 l') (he : l = l') (hl : l.length ≤ 1000) :
    Calls Try.prog 12 #[.slice A n c1, .slice B m c2] w fun e w' => e = .returned (.bool true) ∧ Below w.heap.size w w' := by
  subst he
  obtain ⟨rfl, hA, _, _⟩ := hA
  obtain ⟨rfl, hB, _, _⟩ := hB
  have HA := Lib.hid hA
  have HB := Lib.hid hB
  clear hA hB
  go_enter Try.func12, Try.ntmps12
  go_wp2_with fail
  go_loopw [13] (fun i wr => ∃ k : Nat, k ≤ l.length ∧ i = .int .i64 k ∧ Below w.heap.size w wr) (fun i _ => l.length - (intOf i).toNat)
  case atStart => exact ⟨0, by omega, rfl, Below.refl _ _⟩
  case round =>
    obtain ⟨k, hk, rfl, hbr⟩ := hrel
    by_cases hlt : k < l.length
    case neg =>
      obtain rfl : k = l.length := by omega
      go_wp2_with fail
      go_ret
      exact ⟨rfl, hbr⟩
    obtain ⟨x, hx⟩ : ∃ x, l[k]? = some x := ⟨_, List.getElem?_eq_getElem hlt⟩
    obtain ⟨b, o, rfl, hbw, x0⟩ := SlI.at_ HA.out hx
    obtain ⟨g, o2, rfl, hgw, y0⟩ := SlI.at_ HB.out hx
    clear hx
    replace x0 := (hbr.cell (p := ⟨b, _, none⟩) hbw).trans x0
    replace y0 := (hbr.cell (p := ⟨g, _, none⟩) hgw).trans y0
    go_wp2_with fail
    have K_x0 := cell_regrown x0
    have K_y0 := cell_regrown y0
    clear x0 y0
    refine wp_region_quiet_below (by kernel_rfl) (by kernel_rfl) ?_
    repeat (first | go_big_quiet_step (fail) | quiet_step (fail))
    refine wpQuiet_nil ?_
    intro _ hw'
    obtain ⟨⟨dq, osq⟩, hw''⟩ := hw'
    subst hw''
    have hbW1 := below_regrown wr dq osq
    clear K_x0 K_y0
    have BW1 : Below w.heap.size w (Go.Sort.grow (redrawn wr dq) osq) := hbr.trans (hbW1.mono hbr.size)
    clear hbW1 hbr
    generalize Go.Sort.grow (redrawn wr dq) osq = W1 at *
    go_wp2_with fail
    go_roundw
    case rel => exact ⟨k + 1, by omega, by go_num, BW1⟩
    case measure => simp [intOf]; omega

def useL (l : List Int) (x : Int) : List Int := x :: without l x
theorem useL_length (l : List Int) (x : Int) : (useL l x).length = (without l x).length + 1 := rfl
end Go.Proofs.Ytajihgpkaklgiaa.LruP
