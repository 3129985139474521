/-
  Contracts of relay's own functions: what a port may, which ports may be, check, Takes.
-/
import Derived.Test.YtajihgpkaklgiaaRelC
namespace Go.Proofs.Ytajihgpkaklgiaa.RelP
open Go.RowKit Go.Sort Go.Proofs.Ytajihgpkaklgiaa.SliceP Go.Proofs.Ytajihgpkaklgiaa.BoxP
open Go.Proofs.Ytajihgpkaklgiaa.IntP (RowI SlI OwnI)
set_option linter.unusedVariables false
set_option maxRecDepth 100000
abbrev sv (s l : Int) : Value := .agg #[.int .i64 s, .int .i64 l]
abbrev so (s l : Int) : Obj := .cells #[.int .i64 s, .int .i64 l] 36
set_option maxHeartbeats 4000000 in
theorem i_may (s l : Int) (w : World) : Calls Try.prog 23 #[sv s l] w fun e w' => e = .returned (.tuple #[.bool (decide (s = 2) || decide (s = 3)), .bool (decide (s = 3))]) ∧ Below w.heap.size w w' := by
  have B := Lib.hid ((Below.refl w.heap.size w).alloc (Nat.le_refl _) (so s l))
  go_enter Try.func23, Try.ntmps23
  by_cases h3 : s = 3
  · subst h3
    go_wp2_with fail
    refine bodyPost_ret (v := .tuple #[.bool true, .bool true]) (by simp [results, Try.results23, go_sem]) rfl ⟨rfl, B.out⟩
  · by_cases h2 : s = 2
    · subst h2
      go_wp2_with fail
      refine bodyPost_ret (v := .tuple #[.bool true, .bool false]) (by simp [results, Try.results23, go_sem]) rfl ⟨rfl, B.out⟩
    · have e3 : (s == 3) = false := by simpa using h3
      have e2 : (s == 2) = false := by simpa using h2
      rw [show decide (s = 2) = false by simpa using e2, show decide (s = 3) = false by simpa using e3]
      replace h3 := Lib.hid h3
      replace h2 := Lib.hid h2
      go_wp2_with fail
      refine bodyPost_ret (v := .tuple #[.bool false, .bool false]) (by simp [results, Try.results23, go_sem]) rfl ⟨rfl, B.out⟩
theorem may_to {s l : Int} {w : World} {b2 b3 : Bool} (h : decide (2 ≤ s) = b2) (h' : decide (s = 3) = b3) (hs : s ≤ 3) : Calls Try.prog 23 #[sv s l] w fun e w' => e = .returned (.tuple #[.bool b2, .bool b3]) ∧ Below w.heap.size w w' := by
  refine (i_may s l w).mono ?_
  rintro e w' ⟨rfl, hb⟩
  refine ⟨?_, hb⟩
  subst h h'
  by_cases h2 : s = 2
  · subst h2; rfl
  · by_cases h3 : s = 3
    · subst h3; rfl
    · have h4 : ¬ 2 ≤ s := by omega
      simp [h2, h3, h4]
theorem may_to3 {s l : Int} {w : World} {b3 : Bool} (h' : decide (s = 3) = b3) : Calls Try.prog 23 #[sv s l] w fun e w' => ∃ b2, e = .returned (.tuple #[.bool b2, .bool b3]) ∧ Below w.heap.size w w' := by
  refine (i_may s l w).mono ?_
  rintro e w' ⟨rfl, hb⟩
  exact ⟨_, by rw [h'], hb⟩
set_option maxHeartbeats 4000000 in
theorem i_forwards (s l : Int) (w : World) {b : Bool} (h : decide (s = 3) = b) : Calls Try.prog 27 #[sv s l] w fun e w' => e = .returned (.bool b) ∧ Below w.heap.size w w' := by
  obtain ⟨w1, hw1⟩ : ∃ W, W = w.alloc (so s l) := ⟨_, rfl⟩
  have B := Lib.hid (show Below w.heap.size w w1 by rw [hw1]; exact (Below.refl w.heap.size w).alloc (Nat.le_refl _) (so s l))
  have X := Lib.hid (show Bx w1 w.heap.size 36 #[.int .i64 s, .int .i64 l] by rw [hw1]; exact Bx.new _ _ _ rfl)
  replace h := Lib.hid h
  go_enter Try.func27, Try.ntmps27
  go_upto_region 1 with fail
  rw [← hw1]
  clear hw1
  have x0 := X.out.c (i := 0) rfl
  have x1 := X.out.c (i := 1) rfl
  have zz := X.out.lt
  go_wp2_with fail
  go_at_call 23
  (with_reducible refine (may_to3 h.out).mono ?_)
  rintro e w2 ⟨b2, rfl, hb2⟩
  have B2 := Lib.hid (bt B.out hb2)
  clear hb2 x0 x1 zz
  go_wp2_with fail
  go_ret
  exact ⟨rfl, B2.out⟩
def okP (l : List St) : Bool := decide (1 ≤ l.length) && (decide (l.length ≤ 8) && l.all stB)
set_option maxHeartbeats 8000000 in
theorem i_are {A : Option Addr} {c : Nat} {l : List St} {w : World} (hr : RowP w A l.length c l) (hl : l.length ≤ 1000) {b : Bool} (he : okP l = b) : Calls Try.prog 24 #[.slice A l.length c] w fun e w' => e = .returned (.bool b) ∧ Below w.heap.size w w' := by
  have H := Lib.hid hr
  unfold okP at he
  clear hr
  go_enter Try.func24, Try.ntmps24
  by_cases h1 : (l.length : Int) < 1
  · rw [decide_eq_false (p := 1 ≤ l.length) (by omega), Bool.false_and] at he
    replace he := Lib.hid he
    go_wp2_with fail
    go_ret
    exact ⟨by cases he.out; rfl, Below.refl _ _⟩
  by_cases h2 : 8 < (l.length : Int)
  · rw [decide_eq_false (p := l.length ≤ 8) (by omega), Bool.false_and, Bool.and_false] at he
    replace he := Lib.hid he
    go_wp2_with fail
    go_ret
    exact ⟨by cases he.out; rfl, Below.refl _ _⟩
  rw [decide_eq_true (p := 1 ≤ l.length) (by omega), decide_eq_true (p := l.length ≤ 8) (by omega), Bool.true_and, Bool.true_and] at he
  replace he := Lib.hid he
  go_wp2_with fail
  go_loopw [15] (fun i wr => ∃ k : Nat, k ≤ l.length ∧ i = .int .i64 k ∧ (l.take k).all stB = true ∧ Below w.heap.size w wr) (fun i _ => l.length - (intOf i).toNat)
  case atStart => exact ⟨0, by omega, rfl, rfl, Below.refl _ _⟩
  case round =>
    obtain ⟨k, hk, rfl, hall, hb⟩ := hrel
    by_cases hkn : k < l.length
    · have hkl : (k : Int) < (l.length : Int) := by omega
      obtain ⟨bS, oS, hAS, hbS, q0, q1⟩ := SlP.at_ (H.out.below hb).sl (st_at hkn)
      subst hAS
      obtain ⟨x, hx⟩ : ∃ x, st l k = x := ⟨_, rfl⟩
      rw [hx] at q0 q1
      have hsz := hb.size
      have hgood := Lib.hid fun h => all_more hkn hall (by rw [hx]; exact h)
      have hbad := Lib.hid fun h => all_bad hkn (by rw [hx]; exact h)
      have hdef : stB x = (decide (0 ≤ x.1) && decide (x.1 ≤ 3)) := rfl
      obtain ⟨w8, hw8⟩ : ∃ W, W = wr.alloc (.cells #[.int .i64 x.1, .int .i64 x.2] 36) := ⟨_, rfl⟩
      have b8 := Lib.hid (show Below w.heap.size w w8 by rw [hw8]; exact bt hb ((Below.refl _ _).alloc (Nat.le_refl _) _))
      have X8 := Lib.hid (show Bx w8 wr.heap.size 36 #[.int .i64 x.1, .int .i64 x.2] by rw [hw8]; exact Bx.new _ _ _ rfl)
      replace hx := Lib.hid hx
      clear hall hb
      go_upto_region 6 with fail
      rw [← hw8]
      clear hw8 q0 q1 hbS
      have o0 := X8.out.c (i := 0) rfl
      have zz := X8.out.lt
      by_cases h1 : x.1 < 0
      · have hs := hbad.out (by rw [hdef, decide_eq_false (by omega)]; rfl)
        have he2 := Lib.hid (he.out.symm.trans hs)
        clear he hs
        go_wp2_with fail
        go_ret
        exact ⟨by cases he2.out; rfl, b8.out⟩
      · by_cases h2 : 3 < x.1
        · have hs := hbad.out (by rw [hdef, decide_eq_false (p := x.1 ≤ 3) (by omega)]; simp)
          have he2 := Lib.hid (he.out.symm.trans hs)
          clear he hs
          go_wp2_with fail
          go_ret
          exact ⟨by cases he2.out; rfl, b8.out⟩
        · have hs := hgood.out (by rw [hdef, decide_eq_true (by omega), decide_eq_true (p := x.1 ≤ 3) (by omega)]; rfl)
          replace hs := Lib.hid hs
          go_wp2_with fail
          go_roundw
          case rel => exact ⟨k + 1, by omega, by go_num, hs.out, b8.out⟩
          case measure => simp [intOf]; omega
    · obtain rfl : k = l.length := by omega
      rw [List.take_length] at hall
      have he2 := Lib.hid (he.out.symm.trans hall)
      replace hb := Lib.hid hb
      clear hall he
      go_wp2_with fail
      go_ret
      exact ⟨by cases he2.out; rfl, hb.out⟩
theorem why_okP {l : List St} {p : Int} : why l p = if okP l = true then (if p < 0 ∨ (l.length : Int) ≤ p then 3 else 0) else 1 := by
  unfold why okP
  by_cases h1 : l.all stB = true
  · rw [if_pos h1, h1]
    by_cases h2 : l.length < 1 ∨ 8 < l.length
    · rw [if_pos h2]
      have : ¬ ((decide (1 ≤ l.length) && (decide (l.length ≤ 8) && true)) = true) := by simp; omega
      rw [if_neg this]
    · rw [if_neg h2]
      have : (decide (1 ≤ l.length) && (decide (l.length ≤ 8) && true)) = true := by simp; omega
      rw [if_pos this]
  · rw [if_neg h1]
    have : ¬ ((decide (1 ≤ l.length) && (decide (l.length ≤ 8) && l.all stB)) = true) := by simp [h1]
    rw [if_neg this]
set_option maxHeartbeats 8000000 in
theorem i_check {A : Option Addr} {c : Nat} {l : List St} {w : World} {p er : Int} (hr : RowP w A l.length c l) (hl : l.length ≤ 1000) (he : why l p = er) : Calls Try.prog 17 #[.slice A l.length c, .int .i64 p] w fun e w' => e = .returned (.int .i64 er) ∧ Below w.heap.size w w' := by
  rw [why_okP] at he
  have H := Lib.hid hr
  clear hr
  cases ho : okP l
  · rw [ho, if_neg (by simp)] at he
    subst he
    replace ho := Lib.hid ho
    go_enter Try.func17, Try.ntmps17
    go_wp2_with fail
    go_at_call 24
    (with_reducible refine (i_are H.out hl ho.out).mono ?_)
    rintro e w1 ⟨rfl, hb1⟩
    replace hb1 := Lib.hid hb1
    go_wp2_with fail
    go_ret
    exact ⟨rfl, hb1.out⟩
  · rw [ho, if_pos rfl] at he
    replace ho := Lib.hid ho
    replace he := Lib.hid he
    go_enter Try.func17, Try.ntmps17
    go_wp2_with fail
    go_at_call 24
    (with_reducible refine (i_are H.out hl ho.out).mono ?_)
    rintro e w1 ⟨rfl, hb1⟩
    replace hb1 := Lib.hid hb1
    by_cases h1 : p < 0
    · have he2 := Lib.hid (he.out.symm.trans (if_pos (.inl h1)))
      go_wp2_with fail
      go_ret
      exact ⟨by cases he2.out; rfl, hb1.out⟩
    · by_cases h2 : (l.length : Int) ≤ p
      · have he2 := Lib.hid (he.out.symm.trans (if_pos (.inr h2)))
        go_wp2_with fail
        go_ret
        exact ⟨by cases he2.out; rfl, hb1.out⟩
      · have he2 := Lib.hid (he.out.symm.trans (if_neg (by omega)))
        go_wp2_with fail
        go_ret
        exact ⟨by cases he2.out; rfl, hb1.out⟩
set_option maxHeartbeats 8000000 in
theorem i_takes_no {A : Option Addr} {c : Nat} {l : List St} {w : World} {p er : Int} (hr : RowP w A l.length c l) (hl : l.length ≤ 12) (he : why l p = er) (h0 : er ≠ 0) : Calls Try.prog 9 #[.slice A l.length c, .int .i64 p] w fun e w' => e = .returned (.tuple #[.bool false, .bool false, .int .i64 er]) ∧ Below w.heap.size w w' := by
  have hne : (er == 0) = false := by simpa using h0
  replace h0 := Lib.hid h0
  have hC := Lib.hid (i_check (p := p) hr (by omega) he)
  clear hr he
  go_enter Try.func9, Try.ntmps9
  go_wp2_with fail
  go_at_call 17
  (with_reducible refine hC.out.mono ?_)
  rintro e w1 ⟨rfl, hb1⟩
  replace hb1 := Lib.hid hb1
  go_wp2_with fail
  refine bodyPost_ret (v := .tuple #[.bool false, .bool false, .int .i64 er]) (by simp [results, Try.results9, go_sem]) rfl ⟨rfl, hb1.out⟩
set_option maxHeartbeats 8000000 in
theorem i_takes_ok {A : Option Addr} {c : Nat} {l : List St} {w : World} {p : Nat} (hr : RowP w A l.length c l) (hl : l.length ≤ 12) (he : why l p = 0) : Calls Try.prog 9 #[.slice A l.length c, .int .i64 (p : Int)] w fun e w' => e = .returned (.tuple #[.bool (decide (2 ≤ (st l p).1)), .bool (decide ((st l p).1 = 3)), .int .i64 0]) ∧ Below w.heap.size w w' := by
  obtain ⟨ha, _, _, _, hp⟩ := why_zero he
  have hpl : p < l.length := by omega
  have hC := Lib.hid (i_check (p := (p : Int)) hr (by omega) he)
  obtain ⟨b2, e2⟩ : ∃ b, decide (2 ≤ (st l p).1) = b := ⟨_, rfl⟩
  obtain ⟨b3, e3⟩ : ∃ b, decide ((st l p).1 = 3) = b := ⟨_, rfl⟩
  have hle : (st l p).1 ≤ 3 := by
    have := List.all_eq_true.1 ha _ (List.mem_of_getElem? (st_at hpl))
    unfold stB at this
    simp at this
    omega
  rw [e2, e3]
  have hm := Lib.hid (fun W => may_to (l := (st l p).2) (w := W) e2 e3 hle)
  obtain ⟨x, hx⟩ : ∃ x, st l p = x := ⟨_, rfl⟩
  have H := Lib.hid hr
  rw [hx] at hm
  clear hr he e2 e3 hle ha
  go_enter Try.func9, Try.ntmps9
  go_wp2_with fail
  go_at_call 17
  (with_reducible refine hC.out.mono ?_)
  rintro e w1 ⟨rfl, hb1⟩
  obtain ⟨bS, oS, hAS, hbS, q0, q1⟩ := SlP.at_ (H.out.below hb1).sl (st_at hpl)
  subst hAS
  rw [hx] at q0 q1
  replace hx := Lib.hid hx
  replace hb1 := Lib.hid hb1
  go_wp2_with fail
  go_at_call 23
  (with_reducible refine (hm.out w1).mono ?_)
  rintro e w2 ⟨rfl, hb2⟩
  have B2 := Lib.hid (bt hb1.out hb2)
  clear hb2 q0 q1
  go_wp2_with fail
  refine bodyPost_ret (v := .tuple #[.bool b2, .bool b3, .int .i64 0]) (by simp [results, Try.results9, go_sem]) rfl ⟨rfl, B2.out⟩
end Go.Proofs.Ytajihgpkaklgiaa.RelP
