/-
  The statements' alive; tables as they come in; few.
-/
import Derived.Test.YtnghilcjecjljaaFdbP
import Derived.Deep.Slices
import Derived.WideShapes
import Derived.Carry
namespace Go.Proofs.Ytnghilcjecjljaa.FdbP
open Go.RowKit Go.Sort Go.Proofs.Ytnghilcjecjljaa.SliceP Go.Proofs.Ytnghilcjecjljaa.MacP Go.ChangeShapes Go.WideShapes Go.Deep
open Go.Proofs.Ytnghilcjecjljaa.IntP hiding bt
set_option linter.unusedVariables false
set_option maxRecDepth 100000

def macsA : List Int := [2, 4, 2, 6]
def tabA : Nat → List (List E)
  | 0 => [[]]
  | k + 1 => learnT (tabA k) 2 (macsA.getD k 0) 1 0
abbrev arrA : Array Value := #[.int .i64 2, .int .i64 4, .int .i64 2, .int .i64 6]
theorem tabA_step (k : Nat) (hk : k < 4) : ∃ x, arrA[k]? = some (.int .i64 x) ∧ Small (tabA k) ∧ learnOk (tabA k) 2 9 x 1 0 = true ∧ learnT (tabA k) 2 x 1 0 = tabA (k + 1) := by
  match k, hk with
  | 0, _ => exact ⟨2, rfl, ⟨by decide +kernel, by decide +kernel⟩, by decide +kernel, by decide +kernel⟩
  | 1, _ => exact ⟨4, rfl, ⟨by decide +kernel, by decide +kernel⟩, by decide +kernel, by decide +kernel⟩
  | 2, _ => exact ⟨2, rfl, ⟨by decide +kernel, by decide +kernel⟩, by decide +kernel, by decide +kernel⟩
  | 3, _ => exact ⟨6, rfl, ⟨by decide +kernel, by decide +kernel⟩, by decide +kernel, by decide +kernel⟩
theorem tabA_end : Small (tabA 4) ∧ findOk (tabA 4) 2 9 2 5 = true ∧ findI (tabA 4) 9 2 5 = 1 ∧ findOk (tabA 4) 2 9 4 5 = true ∧ findI (tabA 4) 9 4 5 = -1 := by
  exact ⟨⟨by decide +kernel, by decide +kernel⟩, by decide +kernel, by decide +kernel, by decide +kernel, by decide +kernel⟩

set_option maxHeartbeats 8000000 in
theorem alive_any (w : World) : Calls Try.prog 14 #[] w (True1 w) := by
  go_enter Try.func14, Try.ntmps14
  go_wp2_with fail
  go_at_call 9
  (with_reducible refine (fdNew 1 2 9 _ (by decide) true (by decide +kernel)).mono ?_)
  rintro e w1 ⟨A1, n1, c1, rfl, T1, hb1⟩
  replace T1 : TabH w.heap.size w1 A1 n1 c1 (tabA 0) := T1
  go_wp2_with fail
  obtain ⟨W, hW⟩ : ∃ W, W = (w1.alloc (tObj (.slice A1 n1 c1) 2 9)).alloc (.cells #[.int .i64 2, .int .i64 4, .int .i64 2, .int .i64 6] 3) := ⟨_, rfl⟩
  have hsz := hb1.size
  have BB : Below w1.heap.size w1 W := by rw [hW]; exact ((Below.refl _ _).alloc (Nat.le_refl _) _).alloc (by simp) _
  have BW : Below w.heap.size w W := bt hb1 BB
  have X : Bx W w1.heap.size TT #[.slice A1 n1 c1, .int .i64 2, .int .i64 9] := by rw [hW]; exact (Bx.new w1 _ _ rfl).alloc _
  have R : Bx W (w1.heap.size + 1) 3 arrA := by rw [hW]; exact Bx.new _ _ _ (by simp)
  have hqp : w1.heap.size + 1 ≠ w1.heap.size := by omega
  have T := T1.below BB
  rw [← hW]
  have hp9 : w.heap.size ≤ w1.heap.size := hsz
  clear hb1 hW T1 BB
  generalize w1.heap.size + 1 = q at *
  generalize w1.heap.size = p at *
  replace X := Lib.hid X
  replace R := Lib.hid R
  replace T := Lib.hid T
  replace BW := Lib.hid BW
  replace hp9 := Lib.hid hp9
  replace hqp := Lib.hid hqp
  clear hsz
  go_loopw [17] (fun i wr => ∃ k : Nat, k ≤ 4 ∧ i = .int .i64 k ∧ Below w.heap.size w wr ∧ (∃ A n c, Bx wr p TT #[.slice A n c, .int .i64 2, .int .i64 9] ∧ TabH w.heap.size wr A n c (tabA k)) ∧ Bx wr q 3 arrA) (fun i _ => 4 - (intOf i).toNat)
  case atStart => exact ⟨0, by omega, rfl, BW.out, ⟨_, _, _, X.out, T.out⟩, R.out⟩
  case round =>
    clear X R T BW
    obtain ⟨k, hk, rfl, hb, ⟨A, n, c, X, T⟩, R⟩ := hrel
    have c0 := X.c (i := 0) rfl
    have c1' := X.c (i := 1) rfl
    have c2 := X.c (i := 2) rfl
    have hpl := X.lt
    by_cases hk4 : k < 4
    · obtain ⟨x, hx, hsm, hok, hst⟩ := tabA_step k hk4
      have q0 := R.c hx
      have hbw := R.lt
      have hL := Lib.hid (fdLearn 2 9 x 1 0 T.tab hsm true hok)
      replace R := Lib.hid R
      replace T := Lib.hid T
      replace X := Lib.hid X
      replace hst := Lib.hid hst
      have hsz := Lib.hid hb.size
      clear hx hsm hok
      go_wp2_with fail
      go_at_call 10
      (with_reducible refine hL.out.mono ?_)
      rintro e w2 ⟨A2, n2, c2', rfl, T2, hb2⟩
      have T3 := Lib.hid (show TabH w.heap.size w2 A2 n2 c2' (tabA (k + 1)) by rw [← hst.out]; exact TabH.base T2 hsz.out)
      have X2 := Lib.hid (X.out.below hb2)
      have R2 := Lib.hid (R.out.below hb2)
      have B2 := Lib.hid (hb.trans (hb2.mono hsz.out))
      have d0 := X2.out.c (i := 0) rfl
      have d1 := X2.out.c (i := 1) rfl
      have d2 := X2.out.c (i := 2) rfl
      have f0 := X2.out.f 0
      have f1 := X2.out.f 1
      have f2 := X2.out.f 2
      have hp2 := X2.out.lt
      clear hL T2 hb2 X R T c0 c1' c2 q0 hb hst hpl hbw
      go_wp2_with fail
      go_roundw
      case rel =>
        have hB := Lib.hid (below3 B2.out hp9.out (.slice A2 n2 c2') (.int .i64 2) (.int .i64 9))
        exact ⟨k + 1, by omega, by go_num, hB.out.alloc hB.out.size _, ⟨A2, n2, c2', X2.out.three.alloc _, (T3.out.hi (Hi.box3 X2.out _ _ _)).below ((Below.refl _ _).alloc (Nat.le_refl _) _)⟩, (((R2.out.other hqp.out _ _).other hqp.out _ _).other hqp.out _ _).alloc _⟩
      case measure => simp [intOf]; omega
    · obtain rfl : k = 4 := by omega
      obtain ⟨hsm, h1, h2, h3, h4⟩ := tabA_end
      have hF1 := Lib.hid (fdFind 2 9 2 5 T.tab hsm true h1)
      have hF2 := Lib.hid fun (w2 : World) (hb : Below wr.heap.size wr w2) => fdFind 2 9 4 5 (T.tab.below hb) hsm true h3
      replace h2 := Lib.hid h2
      replace h4 := Lib.hid h4
      clear h1 h3 hsm
      rw [h2.out] at hF1
      go_wp2_with fail
      go_at_call 11
      (with_reducible refine hF1.out.mono ?_)
      rintro e w2 ⟨rfl, hb2⟩
      have X2 := X.below hb2
      have d0 := X2.c (i := 0) rfl
      have d1 := X2.c (i := 1) rfl
      have d2 := X2.c (i := 2) rfl
      have hF3 := Lib.hid (hF2.out _ hb2)
      have B2 := Lib.hid (hb.trans (hb2.mono hb.size))
      clear hF1 hF2 X X2 R T c0 c1' c2 hb hb2
      go_wp2_with fail
      go_at_call 11
      (with_reducible refine hF3.out.mono ?_)
      rintro e w3 ⟨rfl, hb3⟩
      have B3 := bt B2.out hb3
      simp only [if_true, h4.out]
      clear hF3 d0 d1 d2 hb3
      go_wp2_with fail
      go_ret
      exact ⟨rfl, B3⟩
end Go.Proofs.Ytnghilcjecjljaa.FdbP
