/-
  The walk of FrameMore.
-/
import Derived.Test.YtjmmdlnhallkpaaFrameV
import Derived.Test.YtjmmdlnhallkpaaMacR
import Derived.Deep.Cut
import Derived.OpenShut
namespace Go.Proofs.Ytjmmdlnhallkpaa.MacP
open Go.RowKit
set_option linter.unusedVariables false

set_option maxRecDepth 100000 in
set_option maxHeartbeats 1000000 in
theorem frameMore_less (d s t : Int) (x : ByteArray) (b : Int) (w : World) (hx : x.size ≤ maxLen) (b0 : 0 ≤ b) (b1 : b < 256) (ok : okB d s t (cutS x 130) = true) (hl : ¬ (cutS x 130).size = 100) :
    Calls Try.prog 9 #[fv d s t x, .int .u8 b] w fun e w' => e = .returned (.bool true) ∧ Below w.heap.size w w' := by
  have HX := Lib.hid hx
  have m0 := cutS_size x 130
  have m1 : Hid ((cutS x 130).size ≤ maxLen) := Lib.hid (by unfold maxLen; omega)
  clear hx
  go_enter Try.func9, Try.ntmps9
  go_upto_region 1 with fail
  go_cut [2] from 11 (fun s2 wx => s2 = .pointer (some ⟨w.heap.size, 0, none⟩) ∧ wx.frozen? ⟨w.heap.size, 3, none⟩ = false ∧ PB w d s t (cutS x 130) wx)
  case first =>
    go_wp2_with ((go_at_call 23; (with_reducible refine (few_any _ _ _ _ _ HX.out).mono ?_); rintro e w1 ⟨rfl, hb1⟩; obtain ⟨hc1, hf1⟩ := bcell hb1; have z1a : w.heap.size < w1.heap.size := by (have := hb1.size; simp at this; omega)))
    go_meet
    case rel =>
      refine ⟨rfl, by go_simp, by go_simp, by go_simp, by go_simp, by go_simp, by simp; omega, ?_⟩
      repeat (first | exact (((Below.refl _ _).alloc (Nat.le_refl _) _).trans (hb1.mono (by simp))) | apply Below.drew | refine Below.setCell ?_ (by simp) _)
      done
  case rest =>
  obtain ⟨rfl, f3, hp⟩ := hcut
  generalize cutS x 130 = y at *
  obtain ⟨k0, k1, k2, k3, zz, hB⟩ := hp
  have OK := Lib.hid ok
  obtain ⟨_, _, t0, t1, hy⟩ := okB_yes ok
  clear ok
  have q1 := fun w => more_print d s t y b b0 b1 t0 t1 (by omega) w
  have q2 := fun w => more_data y b (by omega) w
  have q3 := fun w m hm => str_one_at w m b hm
  have hO : Hid (okB d s t (more y b) = true) := Lib.hid (ok_more _ _ _ _ _ OK.out (by omega))
  have hE : Hid (pE ((pBytes d s t y).extract 0 13) = 7) := Lib.hid (pE_short _ (by rw [short_size]; omega))
  have hM : Hid (((pBytes d s t y).extract 0 13).size ≤ maxLen) := Lib.hid (by rw [short_size]; unfold maxLen; omega)
  have hl' : ((y.size : Int) == 100) = false := by simp; omega
  have hz : ((pBytes d s t y).size : Int) = 14 + (y.size : Int) := by rw [pBytes_size]; omega
  have hmn : min (14 + (y.size : Int)) 13 = 13 := by omega
  clear hl
  go_wp2_with fail
  go_at_call 24
  (with_reducible refine (fprint_yes _ _ _ _ _ OK.out).mono ?_)
  rintro e w2 ⟨rfl, hb2⟩
  obtain ⟨hc2, hf2⟩ := bcell hb2
  have z2a : w.heap.size < w2.heap.size := Nat.lt_of_lt_of_le (by first | with_reducible assumption | (simp; done) | (simp; omega)) hb2.size
  have y2a : w.heap.size ≤ w2.heap.size := Nat.le_of_lt z2a
  go_wp2_with fail
  go_at_call 26
  (with_reducible refine (fparse_print _ _ _ _ _ hO.out).mono ?_)
  rintro e w3 ⟨rfl, hb3⟩
  obtain ⟨hc3, hf3⟩ := bcell hb3
  have z3a : w.heap.size < w3.heap.size := Nat.lt_of_lt_of_le (by first | with_reducible assumption | (simp; done) | (simp; omega)) hb3.size
  have g3 : w3.cell? ⟨w.heap.size, 3, none⟩ = some (.string y) := by rw [hc3 _ _ (by first | omega | (simp; omega))]; go_simp
  have y3a : w.heap.size ≤ w3.heap.size := Nat.le_of_lt z3a
  go_wp2_with fail
  go_at_call 26
  (with_reducible refine (fparse_bad _ 7 _ hM.out hE.out (by decide)).mono ?_)
  rintro e w4 ⟨rfl, hb4⟩
  obtain ⟨hc4, hf4⟩ := bcell hb4
  have z4a : w3.heap.size < w4.heap.size := Nat.lt_of_lt_of_le (by first | with_reducible assumption | (simp; done) | (simp; omega)) hb4.size
  have y4a : w3.heap.size ≤ w4.heap.size := Nat.le_of_lt z4a
  have z4b : w.heap.size < w4.heap.size := Nat.lt_of_lt_of_le (by first | with_reducible assumption | (simp; done) | (simp; omega)) hb4.size
  have y4b : w.heap.size ≤ w4.heap.size := Nat.le_of_lt z4b
  have g4f0 : w4.cell? ⟨w.heap.size, 0, none⟩ = some (.int .i64 d) := by rw [hc4 _ _ (by first | omega | (simp; done) | (simp; omega))]; go_simp
  have g4f1 : w4.cell? ⟨w.heap.size, 1, none⟩ = some (.int .i64 s) := by rw [hc4 _ _ (by first | omega | (simp; done) | (simp; omega))]; go_simp
  have g4f2 : w4.cell? ⟨w.heap.size, 2, none⟩ = some (.int .i64 t) := by rw [hc4 _ _ (by first | omega | (simp; done) | (simp; omega))]; go_simp
  have g4f3 : w4.cell? ⟨w.heap.size, 3, none⟩ = some (.string (more y b)) := by rw [hc4 _ _ (by first | omega | (simp; done) | (simp; omega))]; go_simp
  have g4p0 : w4.cell? ⟨w3.heap.size, 0, none⟩ = some (.int .i64 d) := by rw [hc4 _ _ (by first | omega | (simp; done) | (simp; omega))]; go_simp
  have g4p1 : w4.cell? ⟨w3.heap.size, 1, none⟩ = some (.int .i64 s) := by rw [hc4 _ _ (by first | omega | (simp; done) | (simp; omega))]; go_simp
  have g4p2 : w4.cell? ⟨w3.heap.size, 2, none⟩ = some (.int .i64 t) := by rw [hc4 _ _ (by first | omega | (simp; done) | (simp; omega))]; go_simp
  have g4p3 : w4.cell? ⟨w3.heap.size, 3, none⟩ = some (.string (more y b)) := by rw [hc4 _ _ (by first | omega | (simp; done) | (simp; omega))]; go_simp
  clear hc4 hf4 hc3 hf3 hc2 hf2
  go_wp2_with fail
  go_at_call 31
  (with_reducible refine (falive_any _).mono ?_)
  rintro e w5 ⟨rfl, hb5⟩
  obtain ⟨hc5, hf5⟩ := bcell hb5
  have z5a : w3.heap.size < w5.heap.size := Nat.lt_of_lt_of_le (by first | with_reducible assumption | (simp; done) | (simp; omega)) hb5.size
  have y5a : w3.heap.size ≤ w5.heap.size := Nat.le_of_lt z5a
  have z5b : w.heap.size < w5.heap.size := Nat.lt_of_lt_of_le (by first | with_reducible assumption | (simp; done) | (simp; omega)) hb5.size
  have y5b : w.heap.size ≤ w5.heap.size := Nat.le_of_lt z5b
  have z5c : w4.heap.size < w5.heap.size := Nat.lt_of_lt_of_le (by first | with_reducible assumption | (simp; done) | (simp; omega)) hb5.size
  have y5c : w4.heap.size ≤ w5.heap.size := Nat.le_of_lt z5c
  have g5f0 : w5.cell? ⟨w.heap.size, 0, none⟩ = some (.int .i64 d) := by rw [hc5 _ _ (by first | omega | (simp; done) | (simp; omega))]; go_simp
  have g5f1 : w5.cell? ⟨w.heap.size, 1, none⟩ = some (.int .i64 s) := by rw [hc5 _ _ (by first | omega | (simp; done) | (simp; omega))]; go_simp
  have g5f2 : w5.cell? ⟨w.heap.size, 2, none⟩ = some (.int .i64 t) := by rw [hc5 _ _ (by first | omega | (simp; done) | (simp; omega))]; go_simp
  have g5f3 : w5.cell? ⟨w.heap.size, 3, none⟩ = some (.string (more y b)) := by rw [hc5 _ _ (by first | omega | (simp; done) | (simp; omega))]; go_simp
  have g5p0 : w5.cell? ⟨w3.heap.size, 0, none⟩ = some (.int .i64 d) := by rw [hc5 _ _ (by first | omega | (simp; done) | (simp; omega))]; go_simp
  have g5p1 : w5.cell? ⟨w3.heap.size, 1, none⟩ = some (.int .i64 s) := by rw [hc5 _ _ (by first | omega | (simp; done) | (simp; omega))]; go_simp
  have g5p2 : w5.cell? ⟨w3.heap.size, 2, none⟩ = some (.int .i64 t) := by rw [hc5 _ _ (by first | omega | (simp; done) | (simp; omega))]; go_simp
  have g5p3 : w5.cell? ⟨w3.heap.size, 3, none⟩ = some (.string (more y b)) := by rw [hc5 _ _ (by first | omega | (simp; done) | (simp; omega))]; go_simp
  clear hc5 hf5
  go_wp2_with fail
  go_ret
  refine ⟨rfl, ?_⟩
  repeat (first | exact hB | assumption | apply Below.drew | refine Below.setCell ?_ (by first | omega | (simp; done) | (simp; omega)) _ | refine Below.alloc ?_ (by first | omega | (simp; done) | (simp; omega)) _ | refine Below.trans ?_ (Below.mono (by assumption) (by first | omega | (simp; done) | (simp; omega))))


theorem frameMore_any (d s t : Int) (x : ByteArray) (b : Int) (w : World) (hx : x.size ≤ maxLen) (b0 : 0 ≤ b) (b1 : b < 256) :
    Calls Try.prog 9 #[fv d s t x, .int .u8 b] w fun e w' => e = .returned (.bool true) ∧ Below w.heap.size w w' := by
  cases ok : okB d s t (cutS x 130)
  · exact frameMore_no d s t x b w hx b0 b1 ok
  · by_cases hl : (cutS x 130).size = 100
    · exact frameMore_100 d s t x b w hx b0 b1 ok hl
    · exact frameMore_less d s t x b w hx b0 b1 ok hl
theorem frameMore_law (d s t : Int) (x : ByteArray) (b : Int) (wd : (Lit.int .i64 d).wf = true) (ws : (Lit.int .i64 s).wf = true) (wt : (Lit.int .i64 t).wf = true) (hx : x.size ≤ maxLen) (wb : (Lit.int .u8 b).wf = true) (w : World) :
    Calls Try.prog 9 #[fv d s t x, .int .u8 b] w fun e w' => e = .returned (.bool true) ∧ Below w.heap.size w w' := by
  have hb := bounds_u8 wb
  exact frameMore_any d s t x b w hx hb.1 (by omega)
end Go.Proofs.Ytjmmdlnhallkpaa.MacP
