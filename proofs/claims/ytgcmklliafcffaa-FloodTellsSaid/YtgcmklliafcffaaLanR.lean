/-
  Contracts of footwayref15's twice, plan, Right, Hosts, Ports, joins, Pairs, Stations; footwayref06.Same; footwayref08.Mac.
-/
import Derived.Test.YtgcmklliafcffaaLanJ
import Derived.BigRegion
namespace Go.Proofs.Ytgcmklliafcffaa.LanP
open Go.RowKit Go.Sort Go.Proofs.Ytgcmklliafcffaa.SliceP Go.Proofs.Ytgcmklliafcffaa.BoxP
open Go.Proofs.Ytgcmklliafcffaa.IntP (RowI SlI OwnI)
open Go.Proofs.Ytgcmklliafcffaa.BoolP (RowB SlB OwnB)
open Go.Proofs.Ytgcmklliafcffaa.MacP (classI class_yes class_no ref_right_no ref_right_yes ref_class)
open Go.Proofs.Ytgcmklliafcffaa.LruP (hasI placeI has_more has_hit place_hit place_none place_geq has_true has_false)
set_option linter.unusedVariables false
set_option maxRecDepth 100000
set_option maxHeartbeats 1000000 in
theorem r_mac (a : Int) (w : World) {b : Bool} (hb : uni a = b) : Calls Try.prog 44 #[.int .i64 a] w fun e w' => e = .returned (.bool b) ∧ w = w' := by
  subst hb
  unfold uni
  by_cases h : 0 ≤ a ∧ a < 281474976710656
  · obtain ⟨h0, h1⟩ := h
    rw [decide_eq_true (show 0 ≤ a ∧ a < 281474976710656 from ⟨h0, h1⟩)]
    cases hc : classI a == 0
    all_goals
      go_enter Try.func44, Try.ntmps44
      go_wp2_with fail
      go_at_call 74
      (with_reducible refine (ref_right_yes a _ h0 h1).mono ?_)
      rintro e w1 ⟨rfl, rfl⟩
      go_wp2_with fail
      go_at_call 75
      (with_reducible refine (ref_class a _ h0 h1).mono ?_)
      rintro e w1 ⟨rfl, rfl⟩
      clear h0 h1
      generalize classI a = c at *
      go_wp2_with fail
      go_ret
      exact ⟨rfl, rfl⟩
  · rw [decide_eq_false h]
    have h' := Lib.hid (show a < 0 ∨ 281474976710656 ≤ a by omega)
    clear h
    go_enter Try.func44, Try.ntmps44
    go_wp2_with fail
    go_at_call 74
    (with_reducible refine (ref_right_no a _ h'.out).mono ?_)
    rintro e w1 ⟨rfl, rfl⟩
    go_wp2_with fail
    go_ret
    exact ⟨rfl, rfl⟩
set_option maxHeartbeats 8000000 in
theorem r_plan {A : Option Addr} {c : Nat} {p : P} {w : World} {n : Int} (hr : Row kc 3 w A p.ports.length c p.ports) (hl : p.ports.length ≤ 1000) {b : Bool} (he : P.ok n p = b) :
    Calls Try.prog 43 #[.agg #[.int .i64 p.id, .slice A p.ports.length c], .int .i64 n] w fun e w' => e = .returned (.bool b) ∧ Below w.heap.size w w' := by
  obtain ⟨w0, hw0⟩ : ∃ W, W = w.alloc (.cells #[.int .i64 p.id, .slice A p.ports.length c] 60) := ⟨_, rfl⟩
  have B0 := Lib.hid (show Below w.heap.size w w0 by rw [hw0]; exact (Below.refl _ _).alloc (Nat.le_refl _) _)
  have X0 := Lib.hid (show Bx w0 w.heap.size 60 #[.int .i64 p.id, .slice A p.ports.length c] by rw [hw0]; exact Bx.new _ _ _ rfl)
  have H := Lib.hid hr
  clear hr
  go_enter Try.func43, Try.ntmps43
  go_upto_region 1 with fail
  rw [← hw0]
  clear hw0
  have x0 := X0.out.c (i := 0) rfl
  have x1 := X0.out.c (i := 1) rfl
  have zz := X0.out.lt
  unfold P.ok at he
  replace he := Lib.hid he
  go_wp2_with fail
  clear x0 x1 zz
  go_loopw [10] (fun i wr => ∃ k : Nat, k ≤ p.ports.length ∧ i = .int .i64 k ∧ (p.ports.take k).all (lkB n) = true ∧ Bx wr w.heap.size 60 #[.int .i64 p.id, .slice A p.ports.length c] ∧ Below w.heap.size w wr) (fun i _ => p.ports.length - (intOf i).toNat)
  case atStart => exact ⟨0, by omega, rfl, rfl, X0.out, B0.out⟩
  case round =>
    clear B0 X0
    obtain ⟨k, hk, rfl, hall, hX, hb⟩ := hrel
    by_cases hkn : k < p.ports.length
    · have hkl : (k : Int) < (p.ports.length : Int) := by omega
      obtain ⟨x, hx⟩ : ∃ x, p.ports[k]? = some x := ⟨_, List.getElem?_eq_getElem hkn⟩
      obtain ⟨bS8, oS8, hAS8, hbS8, q8_0, q8_1, q8_2⟩ := Row.kat (H.out.below hb) hx
      subst hAS8
      obtain ⟨w8, hw8⟩ : ∃ W, W = wr.alloc (.cells #[.int .i64 x.seg, .int .i64 x.cost, .bool x.up] 57) := ⟨_, rfl⟩
      have bb8 : Below wr.heap.size wr w8 := by rw [hw8]; exact (Below.refl _ _).alloc (Nat.le_refl _) _
      have b8 := Lib.hid (bt hb bb8)
      have X8 := Lib.hid (show Bx w8 wr.heap.size 57 #[.int .i64 x.seg, .int .i64 x.cost, .bool x.up] by rw [hw8]; exact Bx.new _ _ _ rfl)
      have hgood := Lib.hid fun h => all_more (f := lkB n) hx hall h
      have hbad := Lib.hid fun h => all_bad (f := lkB n) hx h
      have XP := Lib.hid (hX.below bb8)
      clear hall hX
      replace hx := Lib.hid hx
      clear hb bb8
      go_upto_region 4 with fail
      rw [← hw8]
      clear hw8 q8_0 q8_1 q8_2 hbS8
      have o8_0 := X8.out.c (i := 0) rfl
      have o8_1 := X8.out.c (i := 1) rfl
      have o8_2 := X8.out.c (i := 2) rfl
      have zz8 := X8.out.lt
      have hdef : lkB n x = ((decide (0 ≤ x.seg) && decide (x.seg < n)) && (decide (1 ≤ x.cost) && decide (x.cost ≤ 1000))) := rfl
      by_cases h0 : x.seg < 0
      · have he2 := Lib.hid (show b = false by rw [← he.out, hbad.out (by rw [hdef]; simp; intros; omega)]; simp)
        clear he hdef
        go_wp2_with fail
        go_ret
        exact ⟨by cases he2.out; rfl, b8.out⟩
      by_cases h1 : n ≤ x.seg
      · have he2 := Lib.hid (show b = false by rw [← he.out, hbad.out (by rw [hdef]; simp; intros; omega)]; simp)
        clear he hdef
        go_wp2_with fail
        go_ret
        exact ⟨by cases he2.out; rfl, b8.out⟩
      by_cases h2 : x.cost < 1
      · have he2 := Lib.hid (show b = false by rw [← he.out, hbad.out (by rw [hdef]; simp; intros; omega)]; simp)
        clear he hdef
        go_wp2_with fail
        go_ret
        exact ⟨by cases he2.out; rfl, b8.out⟩
      by_cases h3 : 1000 < x.cost
      · have he2 := Lib.hid (show b = false by rw [← he.out, hbad.out (by rw [hdef]; simp; intros; omega)]; simp)
        clear he hdef
        go_wp2_with fail
        go_ret
        exact ⟨by cases he2.out; rfl, b8.out⟩
      have hs2 := Lib.hid (hgood.out (by rw [hdef]; simp; omega))
      clear hdef
      go_wp2_with fail
      go_roundw
      case rel => exact ⟨k + 1, by omega, by go_num, hs2.out, XP.out, b8.out⟩
      case measure => simp [intOf]; omega
    · obtain rfl : k = p.ports.length := by omega
      rw [List.take_length] at hall
      have he2 := he.out
      rw [hall, Bool.and_true] at he2
      have x0 := hX.c (i := 0) rfl
      have x1 := hX.c (i := 1) rfl
      have zz := hX.lt
      replace hX := Lib.hid hX
      replace hb := Lib.hid hb
      clear hall he
      by_cases h0 : p.id < 0
      · have hb9 : b = false := by rw [← he2]; simp; intros; omega
        subst hb9
        replace he2 := Lib.hid he2
        go_wp2_with fail
        go_ret
        exact ⟨rfl, hb.out⟩
      by_cases h1 : 65535 < p.id
      · have hb9 : b = false := by rw [← he2]; simp; intros; omega
        subst hb9
        replace he2 := Lib.hid he2
        go_wp2_with fail
        go_ret
        exact ⟨rfl, hb.out⟩
      by_cases h2 : (p.ports.length : Int) < 1
      · have hb9 : b = false := by rw [← he2]; simp; intros; omega
        subst hb9
        replace he2 := Lib.hid he2
        go_wp2_with fail
        go_ret
        exact ⟨rfl, hb.out⟩
      by_cases h3 : 8 < (p.ports.length : Int)
      · have d3 : decide ((p.ports.length : Int) ≤ 8) = false := decide_eq_false (by omega)
        have hb9 : b = false := by rw [← he2]; simp; intros; omega
        subst hb9
        replace he2 := Lib.hid he2
        go_wp2_with fail
        go_ret
        exact ⟨rfl, hb.out⟩
      have hb9 : b = true := by rw [← he2]; simp; omega
      subst hb9
      replace he2 := Lib.hid he2
      have k0 : 0 ≤ p.id := by omega
      have k1 : p.id ≤ 65535 := by omega
      have k2 : 1 ≤ (p.ports.length : Int) := by omega
      have k3 : (p.ports.length : Int) ≤ 8 := by omega
      go_wp2_with fail
      go_ret
      exact ⟨rfl, hb.out⟩
end Go.Proofs.Ytgcmklliafcffaa.LanP
