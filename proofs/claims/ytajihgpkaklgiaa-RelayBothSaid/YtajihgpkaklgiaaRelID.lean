/-
  Contracts of relay's taken, Flood, Egress.
-/
import Derived.Test.YtajihgpkaklgiaaRelIC
namespace Go.Proofs.Ytajihgpkaklgiaa.RelP
open Go.RowKit Go.Sort Go.Shelf Go.Proofs.Ytajihgpkaklgiaa.SliceP Go.Proofs.Ytajihgpkaklgiaa.BoxP
open Go.Proofs.Ytajihgpkaklgiaa.IntP (RowI SlI OwnI RetI)
set_option linter.unusedVariables false
set_option maxRecDepth 100000
attribute [local go_sem] Oper.semAt_some
abbrev itv (Bs : Nat) : Value := .func (.func 26) #[] #[.pointer (some ⟨Bs, 0, none⟩), .pointer (some ⟨Bs + 1, 0, none⟩)]
set_option maxHeartbeats 4000000 in
theorem i_collect (Bs : Nat) (A : Option Addr) (cap : Nat) (zs : List St) (p : Nat) (w : World) (hlt : Bs + 1 < w.heap.size)
    (hB0 : w.cell? ⟨Bs, 0, none⟩ = some (.slice A zs.length cap)) (hB1 : w.cell? ⟨Bs + 1, 0, none⟩ = some (.int .i64 (p : Int))) (hr : RowP w A zs.length cap zs) (hp : p < zs.length) (hl : zs.length ≤ 1000) :
    Calls Try.prog 18 #[itv Bs] w (RetI w (flood zs p)) := by
  have hc := Lib.hid (i_append Bs A cap zs p w hlt hB0 hB1 hr hp hl)
  clear hB0 hB1 hr
  go_enter Try.func18, Try.ntmps18
  go_wp2_with fail
  go_at_call 25
  (with_reducible refine hc.out.mono ?_)
  rintro e w1 ⟨A1, c1, rfl, o1, hb1⟩
  replace hb1 := Lib.hid hb1
  replace o1 := Lib.hid o1
  go_wp2_with fail
  go_ret
  exact ⟨A1, c1, rfl, o1.out, hb1.out⟩
theorem i_ways (A : Option Addr) (k c : Nat) (p : Int) (w : World) : Calls Try.prog 19 #[.slice A k c, .int .i64 p] w fun e w' => e = .returned (itv w.heap.size) ∧ w' = (w.alloc (.cells #[.slice A k c] 22)).alloc (.cells #[.int .i64 p] 3) :=
  callsIn_wide.1 (ways_in Fence.wide 3 trivial rfl A k c p w)
theorem row_of {w w' : World} {B : Nat} {A : Option Addr} {n c : Nat} {l : List Int} (h : OwnI w B (.slice A n c) l) : RowI w A n c l := IntP.own_row h
set_option maxHeartbeats 8000000 in
theorem i_flood_no {A : Option Addr} {c : Nat} {l : List St} {w : World} {p er : Int} (hr : RowP w A l.length c l) (hl : l.length ≤ 12) (he : why l p = er) (h0 : er ≠ 0) : Calls Try.prog 7 #[.slice A l.length c, .int .i64 p] w fun e w' => ∃ A' c', e = .returned (.tuple #[.slice A' 0 c', .int .i64 er]) ∧ Below w.heap.size w w' := by
  have hne : (er == 0) = false := by simpa using h0
  replace h0 := Lib.hid h0
  have hC := Lib.hid (i_check (p := p) hr (by omega) he)
  clear hr he
  go_enter Try.func7, Try.ntmps7
  go_wp2_with fail
  go_at_call 17
  (with_reducible refine hC.out.mono ?_)
  rintro e w1 ⟨rfl, hb1⟩
  replace hb1 := Lib.hid hb1
  go_wp2_with fail
  go_ret2
  exact ⟨_, _, rfl, hb1.out⟩
set_option maxHeartbeats 8000000 in
theorem i_flood_ok {A : Option Addr} {c : Nat} {l : List St} {w : World} {p : Nat} (hr : RowP w A l.length c l) (hl : l.length ≤ 12) (he : why l p = 0) : Calls Try.prog 7 #[.slice A l.length c, .int .i64 (p : Int)] w fun e w' => ∃ A' c', e = .returned (.tuple #[.slice A' (flood l p).length c', .int .i64 0]) ∧ RowI w' A' (flood l p).length c' (flood l p) ∧ Below w.heap.size w w' := by
  obtain ⟨ha, _, _, _, hp⟩ := why_zero he
  have hpl : p < l.length := by omega
  have hC := Lib.hid (i_check (p := (p : Int)) hr (by omega) he)
  have H := Lib.hid hr
  clear hr he ha
  go_enter Try.func7, Try.ntmps7
  go_wp2_with fail
  go_at_call 17
  (with_reducible refine hC.out.mono ?_)
  rintro e w1 ⟨rfl, hb1⟩
  have H1 := Lib.hid (H.out.below hb1)
  have hW := Lib.hid (i_ways A l.length c (p : Int) w1)
  replace hb1 := Lib.hid hb1
  go_wp2_with fail
  go_at_call 19
  (with_reducible refine hW.out.mono ?_)
  rintro e w2 ⟨rfl, hw2⟩
  have b2 : Below w1.heap.size w1 w2 := by rw [hw2]; exact ((Below.refl _ _).alloc (Nat.le_refl _) _).alloc (by simp) _
  have hs2 : w1.heap.size + 1 < w2.heap.size := by rw [hw2]; simp
  have k0 : w2.cell? ⟨w1.heap.size, 0, none⟩ = some (.slice A l.length c) := by rw [hw2]; go_simp
  have k1 : w2.cell? ⟨w1.heap.size + 1, 0, none⟩ = some (.int .i64 (p : Int)) := by rw [hw2]; go_simp
  have hc := Lib.hid (i_collect w1.heap.size A c l p w2 hs2 k0 k1 (H1.out.below b2) hpl (by omega))
  have B2 := Lib.hid (bt hb1.out b2)
  clear hw2 k0 k1 b2 hs2
  go_wp2_with fail
  go_at_call 18
  (with_reducible refine hc.out.mono ?_)
  rintro e w3 ⟨A3, c3, rfl, o3, hb3⟩
  have B3 := Lib.hid (bt B2.out hb3)
  replace o3 := Lib.hid o3
  clear hb3
  go_wp2_with fail
  go_ret2
  exact ⟨_, _, rfl, IntP.own_row o3.out, B3.out⟩
/-- By which ports a frame is meant to go. -/
def byI (c o x : Int) : Bool := if c = 2 then false else if c = 0 then (decide (o = -1) || decide (o = x)) else true
theorem egress_by {l : List St} {p : Nat} {c o : Int} (h : badC c o = false) : egress l p c o = (flood l p).filter (byI c o) := by
  have hc : 0 ≤ c ∧ c ≤ 2 ∧ -1 ≤ o := by
    unfold badC at h
    simp at h
    omega
  unfold egress byI
  by_cases h2 : c = 2
  · subst h2; simp
  · by_cases h1 : c = 1
    · subst h1; simp; exact (List.filter_eq_self.2 (fun _ _ => rfl)).symm
    · obtain rfl : c = 0 := by omega
      by_cases ho : o < 0
      · obtain rfl : o = -1 := by omega
        simp; exact (List.filter_eq_self.2 (fun _ _ => rfl)).symm
      · have hne : ¬ o = -1 := by omega
        simp only [ho, hne, or_false, decide_false, Bool.false_or]
        simp only [show ¬ ((0 : Int) = 2) by decide, show ¬ ((0 : Int) = 1) by decide, if_false, if_true]
        congr 1
        funext x
        by_cases hx : x = o
        · subst hx; simp
        · have : ¬ o = x := fun h => hx h.symm
          simp [hx, this]
set_option maxHeartbeats 4000000 in
theorem i_isright (c o : Int) (w : World) {b : Bool} (h : badC c o = !b) : Calls Try.prog 20 #[.agg #[.int .i64 c, .int .i64 o]] w fun e w' => e = .returned (.bool b) ∧ Below w.heap.size w w' := by
  have B := Lib.hid ((Below.refl w.heap.size w).alloc (Nat.le_refl _) (.cells #[.int .i64 c, .int .i64 o] 47))
  unfold badC at h
  go_enter Try.func20, Try.ntmps20
  by_cases h1 : c < 0
  · have hb : b = false := by simpa [h1] using h
    subst hb
    have h1' : ¬ 0 ≤ c := by omega
    replace h := Lib.hid h
    go_wp2_with fail
    go_ret
    exact ⟨rfl, B.out⟩
  · by_cases h2 : 2 < c
    · have hb : b = false := by simpa [h1, h2] using h
      subst hb
      have h1' : 0 ≤ c := by omega
      have h2' : ¬ c ≤ 2 := by omega
      replace h := Lib.hid h
      go_wp2_with fail
      go_ret
      exact ⟨rfl, B.out⟩
    · have h1' : 0 ≤ c := by omega
      have h2' : c ≤ 2 := by omega
      by_cases h3 : o < -1
      · have hb : b = false := by simpa [h1, h2, h3] using h
        subst hb
        have h3' : ¬ -1 ≤ o := by omega
        replace h := Lib.hid h
        go_wp2_with fail
        go_ret
        exact ⟨rfl, B.out⟩
      · have h3' : -1 ≤ o := by omega
        by_cases h4 : 7 < o
        · have hb : b = false := by simpa [h1, h2, h3, h4] using h
          subst hb
          have h4' : ¬ o < 8 := by omega
          replace h := Lib.hid h
          go_wp2_with fail
          go_ret
          exact ⟨rfl, B.out⟩
        · have hb : b = true := by simpa [h1, h2, h3, h4] using h
          subst hb
          have h4' : o < 8 := by omega
          replace h := Lib.hid h
          go_wp2_with fail
          go_ret
          exact ⟨rfl, B.out⟩
set_option maxHeartbeats 4000000 in
theorem i_isby (c o x : Int) (w : World) {b : Bool} (h : byI c o x = b) : Calls Try.prog 22 #[.agg #[.int .i64 c, .int .i64 o], .int .i64 x] w fun e w' => e = .returned (.bool b) ∧ Below w.heap.size w w' := by
  have B := Lib.hid ((Below.refl w.heap.size w).alloc (Nat.le_refl _) (.cells #[.int .i64 c, .int .i64 o] 47))
  unfold byI at h
  go_enter Try.func22, Try.ntmps22
  by_cases h1 : c = 2
  · subst h1
    simp at h
    subst h
    go_wp2_with fail
    go_ret
    exact ⟨rfl, B.out⟩
  · have e1 : (c == 2) = false := by simpa using h1
    rw [if_neg h1] at h
    replace h1 := Lib.hid h1
    by_cases h2 : c = 0
    · subst h2
      rw [if_pos rfl] at h
      by_cases h3 : o = -1
      · subst h3
        simp at h
        subst h
        go_wp2_with fail
        go_ret
        exact ⟨rfl, B.out⟩
      · have e3 : (o == -1) = false := by simpa using h3
        have e4 : (o == x) = b := by rw [← h]; simp [h3, BEq.beq]
        replace h3 := Lib.hid h3
        replace h := Lib.hid h
        go_wp2_with fail
        go_ret
        exact ⟨rfl, B.out⟩
    · have e2 : (c == 0) = false := by simpa using h2
      rw [if_neg h2] at h
      subst h
      replace h2 := Lib.hid h2
      go_wp2_with fail
      go_ret
      exact ⟨rfl, B.out⟩
end Go.Proofs.Ytajihgpkaklgiaa.RelP
