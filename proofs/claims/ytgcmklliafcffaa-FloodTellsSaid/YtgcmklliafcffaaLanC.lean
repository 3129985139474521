/-
  Contracts of lan's Right, and of all that it calls.
-/
import Derived.Test.YtgcmklliafcffaaLanB
import Derived.Test.YtgcmklliafcffaaLruA
namespace Go.Proofs.Ytgcmklliafcffaa.LanP
open Go.RowKit Go.Sort Go.Proofs.Ytgcmklliafcffaa.SliceP Go.Proofs.Ytgcmklliafcffaa.BoxP
open Go.Proofs.Ytgcmklliafcffaa.IntP (RowI SlI OwnI)
open Go.Proofs.Ytgcmklliafcffaa.BoolP (RowB SlB OwnB)
open Go.Proofs.Ytgcmklliafcffaa.MacP (classI class_yes class_no ref_right_no ref_right_yes ref_class)
open Go.Proofs.Ytgcmklliafcffaa.LruP (hasI placeI has_more has_hit place_hit place_none place_geq has_true has_false)
set_option linter.unusedVariables false
set_option maxRecDepth 100000
theorem all_more {α : Type} {f : α → Bool} {l : List α} {k : Nat} {x : α} (hk : l[k]? = some x) (h : (l.take k).all f = true) (h2 : f x = true) : (l.take (k + 1)).all f = true := by
  rw [List.take_add_one, hk, List.all_append, h]; simp [h2]
theorem all_bad {α : Type} {f : α → Bool} {l : List α} {k : Nat} {x : α} (hk : l[k]? = some x) (h2 : f x = false) : l.all f = false := by
  rw [List.all_eq_false]; exact ⟨x, List.mem_of_getElem? hk, by rw [h2]; simp⟩
theorem any_more {α : Type} {f : α → Bool} {l : List α} {k : Nat} {x : α} (hk : l[k]? = some x) (h : (l.take k).any f = false) (h2 : f x = false) : (l.take (k + 1)).any f = false := by
  rw [List.take_add_one, hk, List.any_append, h]; simp [h2]
theorem any_hit {α : Type} {f : α → Bool} {l : List α} {k : Nat} {x : α} (hk : l[k]? = some x) (h2 : f x = true) : l.any f = true := List.any_eq_true.2 ⟨x, List.mem_of_getElem? hk, h2⟩
theorem range_more {f : Nat → Bool} {k : Nat} (h : (List.range k).any f = false) (h2 : f k = false) : (List.range (k + 1)).any f = false := by
  rw [List.range_succ, List.any_append, h]; simp [h2]
def uni (a : Int) : Bool := decide (0 ≤ a ∧ a < 281474976710656) && (classI a == 0)
abbrev L.ok (l : L) : Bool := l.okU uni
theorem o_below (n m : Int) (w : World) {b : Bool} (h : (decide (0 ≤ n) && decide (n < m)) = b) : Calls Try.prog 82 #[.int .i64 n, .int .i64 m] w fun e w' => e = .returned (.bool b) ∧ w = w' := by
  subst h
  go_enter Try.func82, Try.ntmps82
  cases c1 : decide (0 ≤ n) <;> cases c2 : decide (n < m)
  all_goals
    go_wp2_with fail
    go_ret
    exact ⟨rfl, rfl⟩
set_option maxHeartbeats 4000000 in
theorem o_ishost (x : Hs) (n : Int) (w : World) {b : Bool} (h : hostB uni n x = b) : Calls Try.prog 105 #[hv x, .int .i64 n] w fun e w' => e = .returned (.bool b) ∧ Below w.heap.size w w' := by
  obtain ⟨w0, hw0⟩ : ∃ W, W = w.alloc (.cells #[.int .i64 x.1, .int .i64 x.2] 82) := ⟨_, rfl⟩
  have B0 := Lib.hid (show Below w.heap.size w w0 by rw [hw0]; exact (Below.refl _ _).alloc (Nat.le_refl _) _)
  have X0 := Lib.hid (show Bx w0 w.heap.size 82 #[.int .i64 x.1, .int .i64 x.2] by rw [hw0]; exact Bx.new _ _ _ rfl)
  go_enter Try.func105, Try.ntmps105
  go_upto_region 1 with fail
  rw [← hw0]
  clear hw0
  have x0 := X0.out.c (i := 0) rfl
  have x1 := X0.out.c (i := 1) rfl
  have zz := X0.out.lt
  unfold hostB uni at h
  by_cases ha : 0 ≤ x.1 ∧ x.1 < 281474976710656
  · rw [decide_eq_true ha, Bool.true_and] at h
    obtain ⟨cl, hcl⟩ : ∃ c, classI x.1 = c := ⟨_, rfl⟩
    have hC := Lib.hid (fun W => class_yes x.1 W ha.1 ha.2)
    rw [hcl] at h hC
    replace hcl := Lib.hid hcl
    replace ha := Lib.hid ha
    obtain ⟨s, hs⟩ : ∃ s, (decide (0 ≤ x.2) && decide (x.2 < n)) = s := ⟨_, rfl⟩
    have hBl := Lib.hid (fun W => o_below x.2 n W hs)
    rw [hs] at h
    replace hs := Lib.hid hs
    cases hc : (cl == 0)
    · rw [hc, Bool.false_and] at h
      subst h
      go_wp2_with fail
      go_at_call 126
      (with_reducible refine (hC.out _).mono ?_)
      rintro e w1 ⟨rfl, rfl⟩
      go_wp2_with fail
      go_ret
      exact ⟨rfl, B0.out⟩
    · rw [hc, Bool.true_and] at h
      subst h
      go_wp2_with fail
      go_at_call 126
      (with_reducible refine (hC.out _).mono ?_)
      rintro e w1 ⟨rfl, rfl⟩
      go_wp2_with fail
      go_at_call 82
      (with_reducible refine (hBl.out _).mono ?_)
      rintro e w1 ⟨rfl, rfl⟩
      go_wp2_with fail
      go_ret
      exact ⟨rfl, B0.out⟩
  · rw [decide_eq_false ha] at h
    rw [Bool.false_and, Bool.false_and] at h
    subst h
    have hC := Lib.hid (fun W => class_no x.1 W (by omega))
    clear ha
    go_wp2_with fail
    go_at_call 126
    (with_reducible refine (hC.out _).mono ?_)
    rintro e w1 ⟨rfl, rfl⟩
    go_wp2_with fail
    go_ret
    exact ⟨rfl, B0.out⟩
set_option maxHeartbeats 8000000 in
theorem o_isplan {A : Option Addr} {c : Nat} {p : P} {w : World} {n : Int} (hr : Row kc 3 w A p.ports.length c p.ports) (hl : p.ports.length ≤ 1000) {b : Bool} (he : P.ok n p = b) :
    Calls Try.prog 102 #[.agg #[.int .i64 p.id, .slice A p.ports.length c], .int .i64 n] w fun e w' => e = .returned (.bool b) ∧ Below w.heap.size w w' := by
  obtain ⟨w0, hw0⟩ : ∃ W, W = w.alloc (.cells #[.int .i64 p.id, .slice A p.ports.length c] 60) := ⟨_, rfl⟩
  have B0 := Lib.hid (show Below w.heap.size w w0 by rw [hw0]; exact (Below.refl _ _).alloc (Nat.le_refl _) _)
  have X0 := Lib.hid (show Bx w0 w.heap.size 60 #[.int .i64 p.id, .slice A p.ports.length c] by rw [hw0]; exact Bx.new _ _ _ rfl)
  have H := Lib.hid hr
  clear hr
  go_enter Try.func102, Try.ntmps102
  go_upto_region 1 with fail
  rw [← hw0]
  clear hw0
  have x0 := X0.out.c (i := 0) rfl
  have x1 := X0.out.c (i := 1) rfl
  have zz := X0.out.lt
  unfold P.ok at he
  by_cases h1 : p.id < 0
  · have hb : b = false := by rw [← he]; simp; intros; omega
    subst hb
    replace he := Lib.hid he
    go_wp2_with fail
    go_ret
    exact ⟨rfl, B0.out⟩
  by_cases h2 : 65535 < p.id
  · have hb : b = false := by rw [← he]; simp; intros; omega
    subst hb
    replace he := Lib.hid he
    go_wp2_with fail
    go_ret
    exact ⟨rfl, B0.out⟩
  by_cases h3 : (p.ports.length : Int) < 1
  · have hb : b = false := by rw [← he]; simp; intros; omega
    subst hb
    replace he := Lib.hid he
    go_wp2_with fail
    go_ret
    exact ⟨rfl, B0.out⟩
  by_cases h4 : 8 < (p.ports.length : Int)
  · have hb : b = false := by rw [← he]; simp; intros; omega
    subst hb
    replace he := Lib.hid he
    go_wp2_with fail
    go_ret
    exact ⟨rfl, B0.out⟩
  rw [show (decide (0 ≤ p.id) && decide (p.id ≤ 65535)) = true by simp; omega, show (decide (1 ≤ p.ports.length) && decide (p.ports.length ≤ 8)) = true by simp; omega, Bool.true_and, Bool.true_and] at he
  replace he := Lib.hid he
  go_wp2_with fail
  clear x0 x1 zz
  go_loopw [30] (fun i wr => ∃ k : Nat, k ≤ p.ports.length ∧ i = .int .i64 k ∧ (p.ports.take k).all (lkB n) = true ∧ Below w.heap.size w wr) (fun i _ => p.ports.length - (intOf i).toNat)
  case atStart => exact ⟨0, by omega, rfl, rfl, B0.out⟩
  case round =>
    clear B0
    obtain ⟨k, hk, rfl, hall, hb⟩ := hrel
    by_cases hkn : k < p.ports.length
    · have hkl : (k : Int) < (p.ports.length : Int) := by omega
      obtain ⟨x, hx⟩ : ∃ x, p.ports[k]? = some x := ⟨_, List.getElem?_eq_getElem hkn⟩
      obtain ⟨bS8, oS8, hAS8, hbS8, q8_0, q8_1, q8_2⟩ := Row.kat (H.out.below hb) hx
      subst hAS8
      obtain ⟨w8, hw8⟩ : ∃ W, W = wr.alloc (.cells #[.int .i64 x.seg, .int .i64 x.cost, .bool x.up] 57) := ⟨_, rfl⟩
      have bb8 : Below wr.heap.size wr w8 := by rw [hw8]; exact (Below.refl _ _).alloc (Nat.le_refl _) _
      have b8 := Lib.hid (bt hb bb8)
      have X8 := Lib.hid (show Bx w8 wr.heap.size 57 #[.int .i64 x.seg, .int .i64 x.cost, .bool x.up] by rw [hw8]; exact Bx.new _ _ _ rfl)
      have hgood := Lib.hid fun h => all_more (f := lkB n) hx hall h
      have hbad := Lib.hid fun h => all_bad (f := lkB n) hx h
      clear hall
      replace hx := Lib.hid hx
      clear hb bb8
      go_upto_region 6 with fail
      rw [← hw8]
      clear hw8 q8_0 q8_1 q8_2 hbS8
      have o8_0 := X8.out.c (i := 0) rfl
      have o8_1 := X8.out.c (i := 1) rfl
      have o8_2 := X8.out.c (i := 2) rfl
      have zz8 := X8.out.lt
      have hdef : lkB n x = ((decide (0 ≤ x.seg) && decide (x.seg < n)) && (decide (1 ≤ x.cost) && decide (x.cost ≤ 1000))) := rfl
      obtain ⟨s, hs⟩ : ∃ s, (decide (0 ≤ x.seg) && decide (x.seg < n)) = s := ⟨_, rfl⟩
      have hBl := Lib.hid (fun W => o_below x.seg n W hs)
      rw [hs] at hdef
      replace hs := Lib.hid hs
      cases s
      · have he2 := Lib.hid (he.out.symm.trans (hbad.out (by rw [hdef]; rfl)))
        clear he hdef
        go_wp2_with fail
        go_at_call 82
        (with_reducible refine (hBl.out _).mono ?_)
        rintro e w1 ⟨rfl, rfl⟩
        go_wp2_with fail
        go_ret
        exact ⟨by cases he2.out; rfl, b8.out⟩
      · by_cases h5 : x.cost < 1
        · have he2 := Lib.hid (he.out.symm.trans (hbad.out (by rw [hdef, decide_eq_false (p := 1 ≤ x.cost) (by omega)]; rfl)))
          clear he hdef
          go_wp2_with fail
          go_at_call 82
          (with_reducible refine (hBl.out _).mono ?_)
          rintro e w1 ⟨rfl, rfl⟩
          go_wp2_with fail
          go_ret
          exact ⟨by cases he2.out; rfl, b8.out⟩
        · by_cases h6 : 1000 < x.cost
          · have he2 := Lib.hid (he.out.symm.trans (hbad.out (by rw [hdef, decide_eq_false (p := x.cost ≤ 1000) (by omega)]; simp)))
            clear he hdef
            go_wp2_with fail
            go_at_call 82
            (with_reducible refine (hBl.out _).mono ?_)
            rintro e w1 ⟨rfl, rfl⟩
            go_wp2_with fail
            go_ret
            exact ⟨by cases he2.out; rfl, b8.out⟩
          · have hs2 := Lib.hid (hgood.out (by rw [hdef, decide_eq_true (p := 1 ≤ x.cost) (by omega), decide_eq_true (p := x.cost ≤ 1000) (by omega)]; rfl))
            clear hdef
            go_wp2_with fail
            go_at_call 82
            (with_reducible refine (hBl.out _).mono ?_)
            rintro e w1 ⟨rfl, rfl⟩
            go_wp2_with fail
            go_roundw
            case rel => exact ⟨k + 1, by omega, by go_num, hs2.out, b8.out⟩
            case measure => simp [intOf]; omega
    · obtain rfl : k = p.ports.length := by omega
      rw [List.take_length] at hall
      have he2 := Lib.hid (he.out.symm.trans hall)
      replace hb := Lib.hid hb
      clear hall he
      go_wp2_with fail
      go_ret
      exact ⟨by cases he2.out; rfl, hb.out⟩
end Go.Proofs.Ytgcmklliafcffaa.LanP
