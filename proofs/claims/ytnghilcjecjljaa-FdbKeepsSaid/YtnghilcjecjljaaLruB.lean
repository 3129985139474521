/-
  Contracts of footwayref06.Right, Back, Same, Use, of lru.Right, slices.Clone, and of the statements' few.
-/
import Derived.Test.YtnghilcjecjljaaLruA
import Derived.WalkSpells
namespace Go.Proofs.Ytnghilcjecjljaa.LruP
open Go.RowKit Go.Sort Go.Proofs.Ytnghilcjecjljaa.SliceP Go.Proofs.Ytnghilcjecjljaa.IntP
set_option linter.unusedVariables false
set_option maxRecDepth 100000

def okI (l : List Int) : Bool := decide (l.Nodup ∧ ∀ y ∈ l, 0 ≤ y)
def rightI (l : List Int) : Bool := decide (l.length ≤ 64) && okI l
theorem ok_iff {l : List Int} : okI l = true ↔ l.Nodup ∧ ∀ y ∈ l, 0 ≤ y := by unfold okI; rw [decide_eq_true_eq]
theorem ok_false {l : List Int} (h : ¬ (l.Nodup ∧ ∀ y ∈ l, 0 ≤ y)) : okI l = false := by unfold okI; rwa [decide_eq_false_iff_not]
theorem right_iff {l : List Int} : rightI l = true ↔ l.length ≤ 64 ∧ l.Nodup ∧ ∀ y ∈ l, 0 ≤ y := by
  unfold rightI; rw [Bool.and_eq_true, decide_eq_true_eq, ok_iff]
theorem take_next {l : List Int} {k : Nat} {y : Int} (hy : l[k]? = some y) : l.take (k + 1) = l.take k ++ [y] := by
  rw [List.take_add_one, hy]; rfl
theorem ok_more {l : List Int} {k : Nat} {y : Int} (h : okI (l.take k) = true) (hy : l[k]? = some y) (h0 : 0 ≤ y) (hn : hasI (l.take k) y = false) : okI (l.take (k + 1)) = true := by
  rw [ok_iff] at h ⊢
  rw [has_false] at hn
  rw [take_next hy]
  refine ⟨List.nodup_append.2 ⟨h.1, by simp, fun a ha b hb => ?_⟩, fun z hz => ?_⟩
  · rw [List.mem_singleton] at hb; subst hb; rintro rfl; exact hn ha
  · rcases List.mem_append.1 hz with hz | hz
    · exact h.2 z hz
    · rw [List.mem_singleton] at hz; subst hz; exact h0
theorem ok_neg {l : List Int} {k : Nat} {y : Int} (hy : l[k]? = some y) (h0 : y < 0) : okI l = false :=
  ok_false fun h => by have := h.2 y (List.mem_of_getElem? hy); omega
theorem ok_has {l : List Int} {k : Nat} {y : Int} (hy : l[k]? = some y) (hn : hasI (l.take k) y = true) : okI l = false :=
  ok_false fun h => by
    have h1 : (l.take (k + 1)).Nodup := h.1.sublist (List.take_sublist _ _)
    rw [take_next hy, List.nodup_append] at h1
    exact h1.2.2 y (has_true.1 hn) y (by simp) rfl
theorem ok_end {l : List Int} (h : okI (l.take l.length) = true) : okI l = true := by rwa [List.take_length] at h
theorem right_bad {l : List Int} (h : okI l = false) : rightI l = false := by unfold rightI; rw [h, Bool.and_false]
theorem right_ok {l : List Int} (h : okI l = true) (hl : l.length ≤ 64) : rightI l = true := by unfold rightI; rw [h]; simp [hl]
theorem right_big {l : List Int} (hl : 64 < l.length) : rightI l = false := by unfold rightI; simp; omega

set_option maxHeartbeats 4000000 in
theorem right_any {A : Option Addr} {n cap : Nat} {l : List Int} {w : World} (h : RowI w A n cap l) (hl : l.length ≤ 1000) :
    Calls Try.prog 91 #[.slice A n cap] w fun e w' => e = .returned (.bool (rightI l)) ∧ w = w' := by
  obtain rfl := h.len
  have hc := h.cap
  have H := Lib.hid h
  clear h
  by_cases h64 : 64 < l.length
  · have h64' : (64 : Int) < (l.length : Int) := by omega
    go_enter Try.func91, Try.ntmps91
    go_wp2_with fail
    go_ret
    exact ⟨by rw [right_big h64]; rfl, rfl⟩
  have h64' : (l.length : Int) ≤ 64 := by omega
  go_enter Try.func91, Try.ntmps91
  go_wp2_with fail
  go_loop [10] (fun i => ∃ k : Nat, k ≤ l.length ∧ i = .int .i64 k ∧ okI (l.take k) = true) (fun i => l.length - (intOf i).toNat)
  case atStart => exact ⟨0, by omega, rfl, rfl⟩
  case round =>
    obtain ⟨k, hk, rfl, hno⟩ := hrel
    replace hno := Lib.hid hno
    by_cases hlk : k < l.length
    · obtain ⟨y, hy⟩ : ∃ y, l[k]? = some y := ⟨_, List.getElem?_eq_getElem hlk⟩
      obtain ⟨b, o, rfl, hbw, x0⟩ := SlI.at_ H.out.sl hy
      have hT := Lib.hid (H.out.take k hk)
      have hTl : Hid ((l.take k).length ≤ 1000000) := Lib.hid (by rw [List.length_take]; omega)
      have hkc : (k : Int) ≤ (cap : Int) := by omega
      have hk0 : (0 : Int) ≤ (k : Int) := by omega
      replace hy := Lib.hid hy
      by_cases hneg : y < 0
      · go_wp2_with fail
        go_ret
        exact ⟨by rw [right_bad (ok_neg hy.out hneg)]; rfl, rfl⟩
      · have hneg' : 0 ≤ y := by omega
        cases hh : hasI (l.take k) y
        all_goals
          replace hh := Lib.hid hh
          go_wp2_with fail
          go_at_call 100
          (with_reducible refine (has_is hT.out y _ hh.out hTl.out).mono ?_)
          rintro e w1 ⟨rfl, rfl⟩
          go_wp2_with fail
        · go_round
          case rel => exact ⟨k + 1, by omega, by go_num, ok_more hno.out hy.out hneg' hh.out⟩
          case measure => simp [intOf]; omega
        · go_ret
          exact ⟨by rw [right_bad (ok_has hy.out hh.out)]; rfl, rfl⟩
    · obtain rfl : k = l.length := by omega
      go_wp2_with fail
      go_ret
      exact ⟨by rw [right_ok (ok_end hno.out) (by omega)]; rfl, rfl⟩
theorem right_is {A : Option Addr} {n cap : Nat} {l : List Int} {w : World} (h : RowI w A n cap l) (hl : l.length ≤ 1000) (b : Bool) (hb : rightI l = b) :
    Calls Try.prog 91 #[.slice A n cap] w fun e w' => e = .returned (.bool b) ∧ w = w' := by subst hb; exact right_any h hl

theorem back_next {l : List Int} {j : Nat} {y : Int} (hy : l[j]? = some y) : (l.drop j).reverse = (l.drop (j + 1)).reverse ++ [y] := by
  have hj : j < l.length := (List.getElem?_eq_some_iff.1 hy).1
  have e : l[j] = y := by rw [List.getElem?_eq_getElem hj] at hy; exact Option.some.inj hy
  rw [List.drop_eq_getElem_cons hj, List.reverse_cons, e]
theorem back_length (l : List Int) (j : Nat) : (l.drop j).reverse.length ≤ l.length := by rw [List.length_reverse, List.length_drop]; omega
def useL (l : List Int) (x : Int) : List Int := x :: without l x
theorem useL_length (l : List Int) (x : Int) : (useL l x).length = (without l x).length + 1 := rfl
end Go.Proofs.Ytnghilcjecjljaa.LruP
