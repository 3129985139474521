/-
  The walk of VecFar.
-/
import Derived.Test.YtanceablbmgblaaVecO
namespace Go.Proofs.Ytanceablbmgblaa.VecP
open Go.RowKit Go.Sort
set_option linter.unusedVariables false
set_option maxRecDepth 100000

theorem lim30 (x : Int) : 0 ≤ wrap64 ((IntKind.u64.wrap x).tmod 1073741824) ∧ wrap64 ((IntKind.u64.wrap x).tmod 1073741824) < 1073741824 := by
  have h0 : 0 ≤ IntKind.u64.wrap x := by simp [IntKind.wrap, IntKind.signed, IntKind.bits]; omega
  have e : (IntKind.u64.wrap x).tmod 1073741824 = IntKind.u64.wrap x % 1073741824 := Int.tmod_eq_emod_of_nonneg h0
  rw [e]
  have h1 := Int.emod_nonneg (IntKind.u64.wrap x) (b := 1073741824) (by omega)
  have h2 := Int.emod_lt_of_pos (IntKind.u64.wrap x) (b := 1073741824) (by omega)
  rw [IntWalk.wrap64_in _ ⟨by omega, by omega⟩]
  exact ⟨h1, h2⟩
theorem inB_of {n m : Int} (h : 0 ≤ n) (h1 : n ≤ m) : inB n m = true := by simp [inB, h, h1]
theorem okV_far {r c b p X : Int} (h : okV r c b p = true) (h0 : 0 ≤ X) (h1 : X ≤ 2147483647) : okV r X b p = true := by
  simp only [okV, Bool.and_eq_true] at h ⊢; exact ⟨⟨⟨h.1.1.1, inB_of h0 h1⟩, h.1.2⟩, h.2⟩
theorem far_low {r c b p X : Int} (h : c ≤ X) : betB r X b p r c b p = false := by rw [betB_false]; omega
theorem far_more {r c b p r2 c2 b2 p2 n X U : Int} (hX : X = min (c + n) 2147483647) (hU : U = min (c2 + n) 2147483647) (h : betB r c b p r2 c2 b2 p2 = true) (h1 : betB r2 U b2 p2 r X b p = true) : U = 2147483647 := by
  rw [betB_iff] at h h1; omega

set_option maxHeartbeats 4000000 in
theorem vfar_bad (r c b p r2 c2 b2 p2 n0 m0 : Int) (w : World) (h : okV r c b p = false) :
    Calls Try.prog 5 #[vv r c b p, vv r2 c2 b2 p2, .int .i64 n0, .int .i64 m0] w fun e w' => e = .returned (.bool true) ∧ Below w.heap.size w w' := by
  have H := Lib.hid h
  clear h
  obtain ⟨hn0, hn1⟩ := lim30 n0
  obtain ⟨hm0, hm1⟩ := lim30 m0
  go_enter Try.func5, Try.ntmps5
  go_wp2_with fail
  generalize wrap64 ((IntKind.u64.wrap n0).tmod 1073741824) = n at *
  generalize wrap64 ((IntKind.u64.wrap m0).tmod 1073741824) = m at *
  have hn : Hid (inB n 2147483647 = true) := Lib.hid (inB_of hn0 (by omega))
  have hm : Hid (inB m 2147483647 = true) := Lib.hid (inB_of hm0 (by omega))
  have hnm : Hid (inB (n + m) 2147483647 = true) := Lib.hid (inB_of (by omega) (by omega))
  go_at_call 9
  (with_reducible refine (far_bad1 _ _ _ _ _ _ H.out).mono ?_)
  rintro e w1 ⟨rfl, hb1⟩
  obtain ⟨hc, hf⟩ := bcell hb1
  clear hc hf
  have B1 : Below w.heap.size w w1 := by
    skip
    refine Below.trans ?_ (hb1.mono (by first | with_reducible exact Nat.le_refl _ | (simp; done) | (simp; omega)))
    repeat (first | with_reducible assumption | with_reducible exact Below.refl _ _ | apply Below.drew | refine Below.setCell ?_ (by first | omega | (simp; done) | (simp; omega)) _ | refine Below.alloc ?_ (by first | omega | (simp; done) | (simp; omega)) _)
  clear hb1
  go_wp2_with fail
  go_at_call 14
  (with_reducible refine (alive_any _).mono ?_)
  rintro e w2 ⟨rfl, hb2⟩
  obtain ⟨hc, hf⟩ := bcell hb2
  clear hc hf
  have B2 : Below w.heap.size w w2 := by
    have hs := B1.size
    refine Below.trans ?_ (hb2.mono (by first | with_reducible exact B1.size | (have := B1.size; simp; omega)))
    repeat (first | with_reducible assumption | with_reducible exact Below.refl _ _ | apply Below.drew | refine Below.setCell ?_ (by first | omega | (simp; done) | (simp; omega)) _ | refine Below.alloc ?_ (by first | omega | (simp; done) | (simp; omega)) _)
  clear hb2 B1
  go_wp2_with fail
  go_ret
  exact ⟨rfl, B2⟩

set_option maxHeartbeats 4000000 in
theorem vfar_good (r c b p r2 c2 b2 p2 n0 m0 : Int) (w : World) (x is : Bool) (h : okV r c b p = true) (h2 : okV r2 c2 b2 p2 = x) (hi : betB r c b p r2 c2 b2 p2 = is) :
    Calls Try.prog 5 #[vv r c b p, vv r2 c2 b2 p2, .int .i64 n0, .int .i64 m0] w fun e w' => e = .returned (.bool true) ∧ Below w.heap.size w w' := by
  have H := Lib.hid h
  have H2 := Lib.hid h2
  have Hi := Lib.hid hi
  obtain ⟨cc0, cc1, _, _⟩ := far_min c c (okV_cost h) (okV_cost h)
  clear h h2 hi
  obtain ⟨hn0, hn1⟩ := lim30 n0
  obtain ⟨hm0, hm1⟩ := lim30 m0
  go_enter Try.func5, Try.ntmps5
  go_wp2_with fail
  generalize wrap64 ((IntKind.u64.wrap n0).tmod 1073741824) = n at *
  generalize wrap64 ((IntKind.u64.wrap m0).tmod 1073741824) = m at *
  have hn : Hid (inB n 2147483647 = true) := Lib.hid (inB_of hn0 (by omega))
  have hm : Hid (inB m 2147483647 = true) := Lib.hid (inB_of hm0 (by omega))
  have hnm : Hid (inB (n + m) 2147483647 = true) := Lib.hid (inB_of (by omega) (by omega))
  obtain ⟨X, hX⟩ : ∃ X, min (c + n) 2147483647 = X := ⟨_, rfl⟩
  obtain ⟨Y, hY⟩ : ∃ Y, min (c + (n + m)) 2147483647 = Y := ⟨_, rfl⟩
  have hYX : min (X + m) 2147483647 = Y := by omega
  have x0 : c ≤ X := by omega
  have x1 : X ≤ 2147483647 := by omega
  have x2 : 0 ≤ X := by omega
  have okX := Lib.hid (okV_far H.out x2 x1)
  have hX := Lib.hid hX.symm
  have hY := Lib.hid hY
  have hYX := Lib.hid hYX
  go_at_call 9
  (with_reducible refine (far_good _ _ _ _ _ _ H.out hn.out).mono ?_)
  rintro e w1 ⟨rfl, hb1⟩
  obtain ⟨hc, hf⟩ := bcell hb1
  have a_0_1 : w1.cell? ⟨w.heap.size, 0, none⟩ = some (.int .i64 r) := by rw [hc _ _ (by first | with_reducible assumption | omega | (simp; done) | (simp; omega))]; first | with_reducible assumption | go_simp
  have a_1_1 : w1.cell? ⟨w.heap.size, 1, none⟩ = some (.int .i64 c) := by rw [hc _ _ (by first | with_reducible assumption | omega | (simp; done) | (simp; omega))]; first | with_reducible assumption | go_simp
  have a_2_1 : w1.cell? ⟨w.heap.size, 2, none⟩ = some (.int .i64 b) := by rw [hc _ _ (by first | with_reducible assumption | omega | (simp; done) | (simp; omega))]; first | with_reducible assumption | go_simp
  have a_3_1 : w1.cell? ⟨w.heap.size, 3, none⟩ = some (.int .i64 p) := by rw [hc _ _ (by first | with_reducible assumption | omega | (simp; done) | (simp; omega))]; first | with_reducible assumption | go_simp
  have b_0_1 : w1.cell? ⟨w.heap.size + 1, 0, none⟩ = some (.int .i64 r2) := by rw [hc _ _ (by first | with_reducible assumption | omega | (simp; done) | (simp; omega))]; first | with_reducible assumption | go_simp
  have b_1_1 : w1.cell? ⟨w.heap.size + 1, 1, none⟩ = some (.int .i64 c2) := by rw [hc _ _ (by first | with_reducible assumption | omega | (simp; done) | (simp; omega))]; first | with_reducible assumption | go_simp
  have b_2_1 : w1.cell? ⟨w.heap.size + 1, 2, none⟩ = some (.int .i64 b2) := by rw [hc _ _ (by first | with_reducible assumption | omega | (simp; done) | (simp; omega))]; first | with_reducible assumption | go_simp
  have b_3_1 : w1.cell? ⟨w.heap.size + 1, 3, none⟩ = some (.int .i64 p2) := by rw [hc _ _ (by first | with_reducible assumption | omega | (simp; done) | (simp; omega))]; first | with_reducible assumption | go_simp
  clear hc hf
  have z_a_1 : w.heap.size < w1.heap.size := by have h2 := hb1.size; first | omega | (simp at h2; omega)
  have z_b_1 : w.heap.size + 1 < w1.heap.size := by have h2 := hb1.size; first | omega | (simp at h2; omega)
  have B1 : Below w.heap.size w w1 := by
    skip
    refine Below.trans ?_ (hb1.mono (by first | with_reducible exact Nat.le_refl _ | (simp; done) | (simp; omega)))
    repeat (first | with_reducible assumption | with_reducible exact Below.refl _ _ | apply Below.drew | refine Below.setCell ?_ (by first | omega | (simp; done) | (simp; omega)) _ | refine Below.alloc ?_ (by first | omega | (simp; done) | (simp; omega)) _)
  clear hb1
  generalize w.heap.size + 1 = nb at *
  rw [← hX.out]
  go_wp2_with fail
  go_at_call 9
  (with_reducible refine (far_good _ _ _ _ _ _ okX.out hm.out).mono ?_)
  rintro e w2 ⟨rfl, hb2⟩
  obtain ⟨hc, hf⟩ := bcell hb2
  have a_0_2 : w2.cell? ⟨w.heap.size, 0, none⟩ = some (.int .i64 r) := by rw [hc _ _ (by first | with_reducible exact z_a_1 | (have h1 := z_a_1; simp; omega))]; first | with_reducible assumption | go_simp
  have a_1_2 : w2.cell? ⟨w.heap.size, 1, none⟩ = some (.int .i64 c) := by rw [hc _ _ (by first | with_reducible exact z_a_1 | (have h1 := z_a_1; simp; omega))]; first | with_reducible assumption | go_simp
  have a_2_2 : w2.cell? ⟨w.heap.size, 2, none⟩ = some (.int .i64 b) := by rw [hc _ _ (by first | with_reducible exact z_a_1 | (have h1 := z_a_1; simp; omega))]; first | with_reducible assumption | go_simp
  have a_3_2 : w2.cell? ⟨w.heap.size, 3, none⟩ = some (.int .i64 p) := by rw [hc _ _ (by first | with_reducible exact z_a_1 | (have h1 := z_a_1; simp; omega))]; first | with_reducible assumption | go_simp
  have b_0_2 : w2.cell? ⟨nb, 0, none⟩ = some (.int .i64 r2) := by rw [hc _ _ (by first | with_reducible exact z_b_1 | (have h1 := z_b_1; simp; omega))]; first | with_reducible assumption | go_simp
  have b_1_2 : w2.cell? ⟨nb, 1, none⟩ = some (.int .i64 c2) := by rw [hc _ _ (by first | with_reducible exact z_b_1 | (have h1 := z_b_1; simp; omega))]; first | with_reducible assumption | go_simp
  have b_2_2 : w2.cell? ⟨nb, 2, none⟩ = some (.int .i64 b2) := by rw [hc _ _ (by first | with_reducible exact z_b_1 | (have h1 := z_b_1; simp; omega))]; first | with_reducible assumption | go_simp
  have b_3_2 : w2.cell? ⟨nb, 3, none⟩ = some (.int .i64 p2) := by rw [hc _ _ (by first | with_reducible exact z_b_1 | (have h1 := z_b_1; simp; omega))]; first | with_reducible assumption | go_simp
  have x_0_2 : w2.cell? ⟨w1.heap.size, 0, none⟩ = some (.int .i64 r) := by rw [hc _ _ (by first | with_reducible assumption | omega | (simp; done) | (simp; omega))]; first | with_reducible assumption | go_simp
  have x_1_2 : w2.cell? ⟨w1.heap.size, 1, none⟩ = some (.int .i64 X) := by rw [hc _ _ (by first | with_reducible assumption | omega | (simp; done) | (simp; omega))]; first | with_reducible assumption | go_simp
  have x_2_2 : w2.cell? ⟨w1.heap.size, 2, none⟩ = some (.int .i64 b) := by rw [hc _ _ (by first | with_reducible assumption | omega | (simp; done) | (simp; omega))]; first | with_reducible assumption | go_simp
  have x_3_2 : w2.cell? ⟨w1.heap.size, 3, none⟩ = some (.int .i64 p) := by rw [hc _ _ (by first | with_reducible assumption | omega | (simp; done) | (simp; omega))]; first | with_reducible assumption | go_simp
  clear hc hf a_0_1 a_1_1 a_2_1 a_3_1 b_0_1 b_1_1 b_2_1 b_3_1
  have z_a_2 : w.heap.size < w2.heap.size := by have h1 := z_a_1; have h2 := hb2.size; first | (with_reducible exact Nat.lt_of_lt_of_le h1 h2) | omega | (simp at h2; omega)
  clear z_a_1
  have z_b_2 : nb < w2.heap.size := by have h1 := z_b_1; have h2 := hb2.size; first | (with_reducible exact Nat.lt_of_lt_of_le h1 h2) | omega | (simp at h2; omega)
  clear z_b_1
  have z_x_2 : w1.heap.size < w2.heap.size := by have h2 := hb2.size; first | omega | (simp at h2; omega)
  have B2 : Below w.heap.size w w2 := by
    have hs := B1.size
    refine Below.trans ?_ (hb2.mono (by first | with_reducible exact B1.size | (have := B1.size; simp; omega)))
    repeat (first | with_reducible assumption | with_reducible exact Below.refl _ _ | apply Below.drew | refine Below.setCell ?_ (by first | omega | (simp; done) | (simp; omega)) _ | refine Below.alloc ?_ (by first | omega | (simp; done) | (simp; omega)) _)
  clear hb2 B1
  rw [hYX.out]
  go_wp2_with fail
  go_at_call 9
  (with_reducible refine (far_good _ _ _ _ _ _ H.out hnm.out).mono ?_)
  rintro e w3 ⟨rfl, hb3⟩
  obtain ⟨hc, hf⟩ := bcell hb3
  have a_0_3 : w3.cell? ⟨w.heap.size, 0, none⟩ = some (.int .i64 r) := by rw [hc _ _ (by first | with_reducible exact z_a_2 | (have h1 := z_a_2; simp; omega))]; first | with_reducible assumption | go_simp
  have a_1_3 : w3.cell? ⟨w.heap.size, 1, none⟩ = some (.int .i64 c) := by rw [hc _ _ (by first | with_reducible exact z_a_2 | (have h1 := z_a_2; simp; omega))]; first | with_reducible assumption | go_simp
  have a_2_3 : w3.cell? ⟨w.heap.size, 2, none⟩ = some (.int .i64 b) := by rw [hc _ _ (by first | with_reducible exact z_a_2 | (have h1 := z_a_2; simp; omega))]; first | with_reducible assumption | go_simp
  have a_3_3 : w3.cell? ⟨w.heap.size, 3, none⟩ = some (.int .i64 p) := by rw [hc _ _ (by first | with_reducible exact z_a_2 | (have h1 := z_a_2; simp; omega))]; first | with_reducible assumption | go_simp
  have b_0_3 : w3.cell? ⟨nb, 0, none⟩ = some (.int .i64 r2) := by rw [hc _ _ (by first | with_reducible exact z_b_2 | (have h1 := z_b_2; simp; omega))]; first | with_reducible assumption | go_simp
  have b_1_3 : w3.cell? ⟨nb, 1, none⟩ = some (.int .i64 c2) := by rw [hc _ _ (by first | with_reducible exact z_b_2 | (have h1 := z_b_2; simp; omega))]; first | with_reducible assumption | go_simp
  have b_2_3 : w3.cell? ⟨nb, 2, none⟩ = some (.int .i64 b2) := by rw [hc _ _ (by first | with_reducible exact z_b_2 | (have h1 := z_b_2; simp; omega))]; first | with_reducible assumption | go_simp
  have b_3_3 : w3.cell? ⟨nb, 3, none⟩ = some (.int .i64 p2) := by rw [hc _ _ (by first | with_reducible exact z_b_2 | (have h1 := z_b_2; simp; omega))]; first | with_reducible assumption | go_simp
  have x_0_3 : w3.cell? ⟨w1.heap.size, 0, none⟩ = some (.int .i64 r) := by rw [hc _ _ (by first | with_reducible exact z_x_2 | (have h1 := z_x_2; simp; omega))]; first | with_reducible assumption | go_simp
  have x_1_3 : w3.cell? ⟨w1.heap.size, 1, none⟩ = some (.int .i64 X) := by rw [hc _ _ (by first | with_reducible exact z_x_2 | (have h1 := z_x_2; simp; omega))]; first | with_reducible assumption | go_simp
  have x_2_3 : w3.cell? ⟨w1.heap.size, 2, none⟩ = some (.int .i64 b) := by rw [hc _ _ (by first | with_reducible exact z_x_2 | (have h1 := z_x_2; simp; omega))]; first | with_reducible assumption | go_simp
  have x_3_3 : w3.cell? ⟨w1.heap.size, 3, none⟩ = some (.int .i64 p) := by rw [hc _ _ (by first | with_reducible exact z_x_2 | (have h1 := z_x_2; simp; omega))]; first | with_reducible assumption | go_simp
  have y_0_3 : w3.cell? ⟨w2.heap.size, 0, none⟩ = some (.int .i64 r) := by rw [hc _ _ (by first | with_reducible assumption | omega | (simp; done) | (simp; omega))]; first | with_reducible assumption | go_simp
  have y_1_3 : w3.cell? ⟨w2.heap.size, 1, none⟩ = some (.int .i64 Y) := by rw [hc _ _ (by first | with_reducible assumption | omega | (simp; done) | (simp; omega))]; first | with_reducible assumption | go_simp
  have y_2_3 : w3.cell? ⟨w2.heap.size, 2, none⟩ = some (.int .i64 b) := by rw [hc _ _ (by first | with_reducible assumption | omega | (simp; done) | (simp; omega))]; first | with_reducible assumption | go_simp
  have y_3_3 : w3.cell? ⟨w2.heap.size, 3, none⟩ = some (.int .i64 p) := by rw [hc _ _ (by first | with_reducible assumption | omega | (simp; done) | (simp; omega))]; first | with_reducible assumption | go_simp
  clear hc hf a_0_2 a_1_2 a_2_2 a_3_2 b_0_2 b_1_2 b_2_2 b_3_2 x_0_2 x_1_2 x_2_2 x_3_2
  have z_a_3 : w.heap.size < w3.heap.size := by have h1 := z_a_2; have h2 := hb3.size; first | (with_reducible exact Nat.lt_of_lt_of_le h1 h2) | omega | (simp at h2; omega)
  clear z_a_2
  have z_b_3 : nb < w3.heap.size := by have h1 := z_b_2; have h2 := hb3.size; first | (with_reducible exact Nat.lt_of_lt_of_le h1 h2) | omega | (simp at h2; omega)
  clear z_b_2
  have z_x_3 : w1.heap.size < w3.heap.size := by have h1 := z_x_2; have h2 := hb3.size; first | (with_reducible exact Nat.lt_of_lt_of_le h1 h2) | omega | (simp at h2; omega)
  clear z_x_2
  have z_y_3 : w2.heap.size < w3.heap.size := by have h2 := hb3.size; first | omega | (simp at h2; omega)
  have B3 : Below w.heap.size w w3 := by
    have hs := B2.size
    refine Below.trans ?_ (hb3.mono (by first | with_reducible exact B2.size | (have := B2.size; simp; omega)))
    repeat (first | with_reducible assumption | with_reducible exact Below.refl _ _ | apply Below.drew | refine Below.setCell ?_ (by first | omega | (simp; done) | (simp; omega)) _ | refine Below.alloc ?_ (by first | omega | (simp; done) | (simp; omega)) _)
  clear hb3 B2
  rw [hY.out]
  go_wp2_with fail
  go_at_call 8
  (with_reducible refine (better_good _ _ _ _ _ _ _ _ _ okX.out H.out).mono ?_)
  rintro e w4 ⟨rfl, hb4⟩
  obtain ⟨hc, hf⟩ := bcell hb4
  have a_0_4 : w4.cell? ⟨w.heap.size, 0, none⟩ = some (.int .i64 r) := by rw [hc _ _ (by first | with_reducible exact z_a_3 | (have h1 := z_a_3; simp; omega))]; first | with_reducible assumption | go_simp
  have a_1_4 : w4.cell? ⟨w.heap.size, 1, none⟩ = some (.int .i64 c) := by rw [hc _ _ (by first | with_reducible exact z_a_3 | (have h1 := z_a_3; simp; omega))]; first | with_reducible assumption | go_simp
  have a_2_4 : w4.cell? ⟨w.heap.size, 2, none⟩ = some (.int .i64 b) := by rw [hc _ _ (by first | with_reducible exact z_a_3 | (have h1 := z_a_3; simp; omega))]; first | with_reducible assumption | go_simp
  have a_3_4 : w4.cell? ⟨w.heap.size, 3, none⟩ = some (.int .i64 p) := by rw [hc _ _ (by first | with_reducible exact z_a_3 | (have h1 := z_a_3; simp; omega))]; first | with_reducible assumption | go_simp
  have b_0_4 : w4.cell? ⟨nb, 0, none⟩ = some (.int .i64 r2) := by rw [hc _ _ (by first | with_reducible exact z_b_3 | (have h1 := z_b_3; simp; omega))]; first | with_reducible assumption | go_simp
  have b_1_4 : w4.cell? ⟨nb, 1, none⟩ = some (.int .i64 c2) := by rw [hc _ _ (by first | with_reducible exact z_b_3 | (have h1 := z_b_3; simp; omega))]; first | with_reducible assumption | go_simp
  have b_2_4 : w4.cell? ⟨nb, 2, none⟩ = some (.int .i64 b2) := by rw [hc _ _ (by first | with_reducible exact z_b_3 | (have h1 := z_b_3; simp; omega))]; first | with_reducible assumption | go_simp
  have b_3_4 : w4.cell? ⟨nb, 3, none⟩ = some (.int .i64 p2) := by rw [hc _ _ (by first | with_reducible exact z_b_3 | (have h1 := z_b_3; simp; omega))]; first | with_reducible assumption | go_simp
  have x_0_4 : w4.cell? ⟨w1.heap.size, 0, none⟩ = some (.int .i64 r) := by rw [hc _ _ (by first | with_reducible exact z_x_3 | (have h1 := z_x_3; simp; omega))]; first | with_reducible assumption | go_simp
  have x_1_4 : w4.cell? ⟨w1.heap.size, 1, none⟩ = some (.int .i64 X) := by rw [hc _ _ (by first | with_reducible exact z_x_3 | (have h1 := z_x_3; simp; omega))]; first | with_reducible assumption | go_simp
  have x_2_4 : w4.cell? ⟨w1.heap.size, 2, none⟩ = some (.int .i64 b) := by rw [hc _ _ (by first | with_reducible exact z_x_3 | (have h1 := z_x_3; simp; omega))]; first | with_reducible assumption | go_simp
  have x_3_4 : w4.cell? ⟨w1.heap.size, 3, none⟩ = some (.int .i64 p) := by rw [hc _ _ (by first | with_reducible exact z_x_3 | (have h1 := z_x_3; simp; omega))]; first | with_reducible assumption | go_simp
  have y_0_4 : w4.cell? ⟨w2.heap.size, 0, none⟩ = some (.int .i64 r) := by rw [hc _ _ (by first | with_reducible exact z_y_3 | (have h1 := z_y_3; simp; omega))]; first | with_reducible assumption | go_simp
  have y_1_4 : w4.cell? ⟨w2.heap.size, 1, none⟩ = some (.int .i64 Y) := by rw [hc _ _ (by first | with_reducible exact z_y_3 | (have h1 := z_y_3; simp; omega))]; first | with_reducible assumption | go_simp
  have y_2_4 : w4.cell? ⟨w2.heap.size, 2, none⟩ = some (.int .i64 b) := by rw [hc _ _ (by first | with_reducible exact z_y_3 | (have h1 := z_y_3; simp; omega))]; first | with_reducible assumption | go_simp
  have y_3_4 : w4.cell? ⟨w2.heap.size, 3, none⟩ = some (.int .i64 p) := by rw [hc _ _ (by first | with_reducible exact z_y_3 | (have h1 := z_y_3; simp; omega))]; first | with_reducible assumption | go_simp
  have z_0_4 : w4.cell? ⟨w3.heap.size, 0, none⟩ = some (.int .i64 r) := by rw [hc _ _ (by first | with_reducible assumption | omega | (simp; done) | (simp; omega))]; first | with_reducible assumption | go_simp
  have z_1_4 : w4.cell? ⟨w3.heap.size, 1, none⟩ = some (.int .i64 Y) := by rw [hc _ _ (by first | with_reducible assumption | omega | (simp; done) | (simp; omega))]; first | with_reducible assumption | go_simp
  have z_2_4 : w4.cell? ⟨w3.heap.size, 2, none⟩ = some (.int .i64 b) := by rw [hc _ _ (by first | with_reducible assumption | omega | (simp; done) | (simp; omega))]; first | with_reducible assumption | go_simp
  have z_3_4 : w4.cell? ⟨w3.heap.size, 3, none⟩ = some (.int .i64 p) := by rw [hc _ _ (by first | with_reducible assumption | omega | (simp; done) | (simp; omega))]; first | with_reducible assumption | go_simp
  clear hc hf a_0_3 a_1_3 a_2_3 a_3_3 b_0_3 b_1_3 b_2_3 b_3_3 x_0_3 x_1_3 x_2_3 x_3_3 y_0_3 y_1_3 y_2_3 y_3_3
  have z_a_4 : w.heap.size < w4.heap.size := by have h1 := z_a_3; have h2 := hb4.size; first | (with_reducible exact Nat.lt_of_lt_of_le h1 h2) | omega | (simp at h2; omega)
  clear z_a_3
  have z_b_4 : nb < w4.heap.size := by have h1 := z_b_3; have h2 := hb4.size; first | (with_reducible exact Nat.lt_of_lt_of_le h1 h2) | omega | (simp at h2; omega)
  clear z_b_3
  have z_x_4 : w1.heap.size < w4.heap.size := by have h1 := z_x_3; have h2 := hb4.size; first | (with_reducible exact Nat.lt_of_lt_of_le h1 h2) | omega | (simp at h2; omega)
  clear z_x_3
  have z_y_4 : w2.heap.size < w4.heap.size := by have h1 := z_y_3; have h2 := hb4.size; first | (with_reducible exact Nat.lt_of_lt_of_le h1 h2) | omega | (simp at h2; omega)
  clear z_y_3
  have z_z_4 : w3.heap.size < w4.heap.size := by have h2 := hb4.size; first | omega | (simp at h2; omega)
  have B4 : Below w.heap.size w w4 := by
    have hs := B3.size
    refine Below.trans ?_ (hb4.mono (by first | with_reducible exact B3.size | (have := B3.size; simp; omega)))
    repeat (first | with_reducible assumption | with_reducible exact Below.refl _ _ | apply Below.drew | refine Below.setCell ?_ (by first | omega | (simp; done) | (simp; omega)) _ | refine Below.alloc ?_ (by first | omega | (simp; done) | (simp; omega)) _)
  clear hb4 B3
  rw [far_low x0]
  go_wp2_with fail
  go_at_call 14
  (with_reducible refine (alive_any _).mono ?_)
  rintro e w5 ⟨rfl, hb5⟩
  obtain ⟨hc, hf⟩ := bcell hb5
  have a_0_5 : w5.cell? ⟨w.heap.size, 0, none⟩ = some (.int .i64 r) := by rw [hc _ _ (by first | with_reducible exact z_a_4 | (have h1 := z_a_4; simp; omega))]; first | with_reducible assumption | go_simp
  have a_1_5 : w5.cell? ⟨w.heap.size, 1, none⟩ = some (.int .i64 c) := by rw [hc _ _ (by first | with_reducible exact z_a_4 | (have h1 := z_a_4; simp; omega))]; first | with_reducible assumption | go_simp
  have a_2_5 : w5.cell? ⟨w.heap.size, 2, none⟩ = some (.int .i64 b) := by rw [hc _ _ (by first | with_reducible exact z_a_4 | (have h1 := z_a_4; simp; omega))]; first | with_reducible assumption | go_simp
  have a_3_5 : w5.cell? ⟨w.heap.size, 3, none⟩ = some (.int .i64 p) := by rw [hc _ _ (by first | with_reducible exact z_a_4 | (have h1 := z_a_4; simp; omega))]; first | with_reducible assumption | go_simp
  have b_0_5 : w5.cell? ⟨nb, 0, none⟩ = some (.int .i64 r2) := by rw [hc _ _ (by first | with_reducible exact z_b_4 | (have h1 := z_b_4; simp; omega))]; first | with_reducible assumption | go_simp
  have b_1_5 : w5.cell? ⟨nb, 1, none⟩ = some (.int .i64 c2) := by rw [hc _ _ (by first | with_reducible exact z_b_4 | (have h1 := z_b_4; simp; omega))]; first | with_reducible assumption | go_simp
  have b_2_5 : w5.cell? ⟨nb, 2, none⟩ = some (.int .i64 b2) := by rw [hc _ _ (by first | with_reducible exact z_b_4 | (have h1 := z_b_4; simp; omega))]; first | with_reducible assumption | go_simp
  have b_3_5 : w5.cell? ⟨nb, 3, none⟩ = some (.int .i64 p2) := by rw [hc _ _ (by first | with_reducible exact z_b_4 | (have h1 := z_b_4; simp; omega))]; first | with_reducible assumption | go_simp
  have x_0_5 : w5.cell? ⟨w1.heap.size, 0, none⟩ = some (.int .i64 r) := by rw [hc _ _ (by first | with_reducible exact z_x_4 | (have h1 := z_x_4; simp; omega))]; first | with_reducible assumption | go_simp
  have x_1_5 : w5.cell? ⟨w1.heap.size, 1, none⟩ = some (.int .i64 X) := by rw [hc _ _ (by first | with_reducible exact z_x_4 | (have h1 := z_x_4; simp; omega))]; first | with_reducible assumption | go_simp
  have x_2_5 : w5.cell? ⟨w1.heap.size, 2, none⟩ = some (.int .i64 b) := by rw [hc _ _ (by first | with_reducible exact z_x_4 | (have h1 := z_x_4; simp; omega))]; first | with_reducible assumption | go_simp
  have x_3_5 : w5.cell? ⟨w1.heap.size, 3, none⟩ = some (.int .i64 p) := by rw [hc _ _ (by first | with_reducible exact z_x_4 | (have h1 := z_x_4; simp; omega))]; first | with_reducible assumption | go_simp
  have y_0_5 : w5.cell? ⟨w2.heap.size, 0, none⟩ = some (.int .i64 r) := by rw [hc _ _ (by first | with_reducible exact z_y_4 | (have h1 := z_y_4; simp; omega))]; first | with_reducible assumption | go_simp
  have y_1_5 : w5.cell? ⟨w2.heap.size, 1, none⟩ = some (.int .i64 Y) := by rw [hc _ _ (by first | with_reducible exact z_y_4 | (have h1 := z_y_4; simp; omega))]; first | with_reducible assumption | go_simp
  have y_2_5 : w5.cell? ⟨w2.heap.size, 2, none⟩ = some (.int .i64 b) := by rw [hc _ _ (by first | with_reducible exact z_y_4 | (have h1 := z_y_4; simp; omega))]; first | with_reducible assumption | go_simp
  have y_3_5 : w5.cell? ⟨w2.heap.size, 3, none⟩ = some (.int .i64 p) := by rw [hc _ _ (by first | with_reducible exact z_y_4 | (have h1 := z_y_4; simp; omega))]; first | with_reducible assumption | go_simp
  have z_0_5 : w5.cell? ⟨w3.heap.size, 0, none⟩ = some (.int .i64 r) := by rw [hc _ _ (by first | with_reducible exact z_z_4 | (have h1 := z_z_4; simp; omega))]; first | with_reducible assumption | go_simp
  have z_1_5 : w5.cell? ⟨w3.heap.size, 1, none⟩ = some (.int .i64 Y) := by rw [hc _ _ (by first | with_reducible exact z_z_4 | (have h1 := z_z_4; simp; omega))]; first | with_reducible assumption | go_simp
  have z_2_5 : w5.cell? ⟨w3.heap.size, 2, none⟩ = some (.int .i64 b) := by rw [hc _ _ (by first | with_reducible exact z_z_4 | (have h1 := z_z_4; simp; omega))]; first | with_reducible assumption | go_simp
  have z_3_5 : w5.cell? ⟨w3.heap.size, 3, none⟩ = some (.int .i64 p) := by rw [hc _ _ (by first | with_reducible exact z_z_4 | (have h1 := z_z_4; simp; omega))]; first | with_reducible assumption | go_simp
  clear hc hf a_0_4 a_1_4 a_2_4 a_3_4 b_0_4 b_1_4 b_2_4 b_3_4 x_0_4 x_1_4 x_2_4 x_3_4 y_0_4 y_1_4 y_2_4 y_3_4 z_0_4 z_1_4 z_2_4 z_3_4
  have z_a_5 : w.heap.size < w5.heap.size := by have h1 := z_a_4; have h2 := hb5.size; first | (with_reducible exact Nat.lt_of_lt_of_le h1 h2) | omega | (simp at h2; omega)
  clear z_a_4
  have z_b_5 : nb < w5.heap.size := by have h1 := z_b_4; have h2 := hb5.size; first | (with_reducible exact Nat.lt_of_lt_of_le h1 h2) | omega | (simp at h2; omega)
  clear z_b_4
  have z_x_5 : w1.heap.size < w5.heap.size := by have h1 := z_x_4; have h2 := hb5.size; first | (with_reducible exact Nat.lt_of_lt_of_le h1 h2) | omega | (simp at h2; omega)
  clear z_x_4
  have z_y_5 : w2.heap.size < w5.heap.size := by have h1 := z_y_4; have h2 := hb5.size; first | (with_reducible exact Nat.lt_of_lt_of_le h1 h2) | omega | (simp at h2; omega)
  clear z_y_4
  have z_z_5 : w3.heap.size < w5.heap.size := by have h1 := z_z_4; have h2 := hb5.size; first | (with_reducible exact Nat.lt_of_lt_of_le h1 h2) | omega | (simp at h2; omega)
  clear z_z_4
  have B5 : Below w.heap.size w w5 := by
    have hs := B4.size
    refine Below.trans ?_ (hb5.mono (by first | with_reducible exact B4.size | (have := B4.size; simp; omega)))
    repeat (first | with_reducible assumption | with_reducible exact Below.refl _ _ | apply Below.drew | refine Below.setCell ?_ (by first | omega | (simp; done) | (simp; omega)) _ | refine Below.alloc ?_ (by first | omega | (simp; done) | (simp; omega)) _)
  clear hb5 B4
  clear y_0_5 y_1_5 y_2_5 y_3_5 z_y_5
  clear z_0_5 z_1_5 z_2_5 z_3_5 z_z_5
  cases x
  · go_wp2_with fail
    go_at_call 8
    (with_reducible refine (better_bad _ _ _ _ _ _ _ _ _ (by rw [H2.out, Bool.and_false])).mono ?_)
    rintro e w6 ⟨rfl, hb6⟩
    obtain ⟨hc, hf⟩ := bcell hb6
    have a_0_6 : w6.cell? ⟨w.heap.size, 0, none⟩ = some (.int .i64 r) := by rw [hc _ _ (by first | with_reducible exact z_a_5 | (have h1 := z_a_5; simp; omega))]; first | with_reducible assumption | go_simp
    have a_1_6 : w6.cell? ⟨w.heap.size, 1, none⟩ = some (.int .i64 c) := by rw [hc _ _ (by first | with_reducible exact z_a_5 | (have h1 := z_a_5; simp; omega))]; first | with_reducible assumption | go_simp
    have a_2_6 : w6.cell? ⟨w.heap.size, 2, none⟩ = some (.int .i64 b) := by rw [hc _ _ (by first | with_reducible exact z_a_5 | (have h1 := z_a_5; simp; omega))]; first | with_reducible assumption | go_simp
    have a_3_6 : w6.cell? ⟨w.heap.size, 3, none⟩ = some (.int .i64 p) := by rw [hc _ _ (by first | with_reducible exact z_a_5 | (have h1 := z_a_5; simp; omega))]; first | with_reducible assumption | go_simp
    have b_0_6 : w6.cell? ⟨nb, 0, none⟩ = some (.int .i64 r2) := by rw [hc _ _ (by first | with_reducible exact z_b_5 | (have h1 := z_b_5; simp; omega))]; first | with_reducible assumption | go_simp
    have b_1_6 : w6.cell? ⟨nb, 1, none⟩ = some (.int .i64 c2) := by rw [hc _ _ (by first | with_reducible exact z_b_5 | (have h1 := z_b_5; simp; omega))]; first | with_reducible assumption | go_simp
    have b_2_6 : w6.cell? ⟨nb, 2, none⟩ = some (.int .i64 b2) := by rw [hc _ _ (by first | with_reducible exact z_b_5 | (have h1 := z_b_5; simp; omega))]; first | with_reducible assumption | go_simp
    have b_3_6 : w6.cell? ⟨nb, 3, none⟩ = some (.int .i64 p2) := by rw [hc _ _ (by first | with_reducible exact z_b_5 | (have h1 := z_b_5; simp; omega))]; first | with_reducible assumption | go_simp
    have x_0_6 : w6.cell? ⟨w1.heap.size, 0, none⟩ = some (.int .i64 r) := by rw [hc _ _ (by first | with_reducible exact z_x_5 | (have h1 := z_x_5; simp; omega))]; first | with_reducible assumption | go_simp
    have x_1_6 : w6.cell? ⟨w1.heap.size, 1, none⟩ = some (.int .i64 X) := by rw [hc _ _ (by first | with_reducible exact z_x_5 | (have h1 := z_x_5; simp; omega))]; first | with_reducible assumption | go_simp
    have x_2_6 : w6.cell? ⟨w1.heap.size, 2, none⟩ = some (.int .i64 b) := by rw [hc _ _ (by first | with_reducible exact z_x_5 | (have h1 := z_x_5; simp; omega))]; first | with_reducible assumption | go_simp
    have x_3_6 : w6.cell? ⟨w1.heap.size, 3, none⟩ = some (.int .i64 p) := by rw [hc _ _ (by first | with_reducible exact z_x_5 | (have h1 := z_x_5; simp; omega))]; first | with_reducible assumption | go_simp
    clear hc hf a_0_5 a_1_5 a_2_5 a_3_5 b_0_5 b_1_5 b_2_5 b_3_5 x_0_5 x_1_5 x_2_5 x_3_5
    have z_a_6 : w.heap.size < w6.heap.size := by have h1 := z_a_5; have h2 := hb6.size; first | (with_reducible exact Nat.lt_of_lt_of_le h1 h2) | omega | (simp at h2; omega)
    clear z_a_5
    have z_b_6 : nb < w6.heap.size := by have h1 := z_b_5; have h2 := hb6.size; first | (with_reducible exact Nat.lt_of_lt_of_le h1 h2) | omega | (simp at h2; omega)
    clear z_b_5
    have z_x_6 : w1.heap.size < w6.heap.size := by have h1 := z_x_5; have h2 := hb6.size; first | (with_reducible exact Nat.lt_of_lt_of_le h1 h2) | omega | (simp at h2; omega)
    clear z_x_5
    have B6 : Below w.heap.size w w6 := by
      have hs := B5.size
      refine Below.trans ?_ (hb6.mono (by first | with_reducible exact B5.size | (have := B5.size; simp; omega)))
      repeat (first | with_reducible assumption | with_reducible exact Below.refl _ _ | apply Below.drew | refine Below.setCell ?_ (by first | omega | (simp; done) | (simp; omega)) _ | refine Below.alloc ?_ (by first | omega | (simp; done) | (simp; omega)) _)
    clear hb6 B5
    go_wp2_with fail
    go_at_call 9
    (with_reducible refine (far_bad1 _ _ _ _ _ _ H2.out).mono ?_)
    rintro e w7 ⟨rfl, hb7⟩
    obtain ⟨hc, hf⟩ := bcell hb7
    have a_0_7 : w7.cell? ⟨w.heap.size, 0, none⟩ = some (.int .i64 r) := by rw [hc _ _ (by first | with_reducible exact z_a_6 | (have h1 := z_a_6; simp; omega))]; first | with_reducible assumption | go_simp
    have a_1_7 : w7.cell? ⟨w.heap.size, 1, none⟩ = some (.int .i64 c) := by rw [hc _ _ (by first | with_reducible exact z_a_6 | (have h1 := z_a_6; simp; omega))]; first | with_reducible assumption | go_simp
    have a_2_7 : w7.cell? ⟨w.heap.size, 2, none⟩ = some (.int .i64 b) := by rw [hc _ _ (by first | with_reducible exact z_a_6 | (have h1 := z_a_6; simp; omega))]; first | with_reducible assumption | go_simp
    have a_3_7 : w7.cell? ⟨w.heap.size, 3, none⟩ = some (.int .i64 p) := by rw [hc _ _ (by first | with_reducible exact z_a_6 | (have h1 := z_a_6; simp; omega))]; first | with_reducible assumption | go_simp
    have b_0_7 : w7.cell? ⟨nb, 0, none⟩ = some (.int .i64 r2) := by rw [hc _ _ (by first | with_reducible exact z_b_6 | (have h1 := z_b_6; simp; omega))]; first | with_reducible assumption | go_simp
    have b_1_7 : w7.cell? ⟨nb, 1, none⟩ = some (.int .i64 c2) := by rw [hc _ _ (by first | with_reducible exact z_b_6 | (have h1 := z_b_6; simp; omega))]; first | with_reducible assumption | go_simp
    have b_2_7 : w7.cell? ⟨nb, 2, none⟩ = some (.int .i64 b2) := by rw [hc _ _ (by first | with_reducible exact z_b_6 | (have h1 := z_b_6; simp; omega))]; first | with_reducible assumption | go_simp
    have b_3_7 : w7.cell? ⟨nb, 3, none⟩ = some (.int .i64 p2) := by rw [hc _ _ (by first | with_reducible exact z_b_6 | (have h1 := z_b_6; simp; omega))]; first | with_reducible assumption | go_simp
    have x_0_7 : w7.cell? ⟨w1.heap.size, 0, none⟩ = some (.int .i64 r) := by rw [hc _ _ (by first | with_reducible exact z_x_6 | (have h1 := z_x_6; simp; omega))]; first | with_reducible assumption | go_simp
    have x_1_7 : w7.cell? ⟨w1.heap.size, 1, none⟩ = some (.int .i64 X) := by rw [hc _ _ (by first | with_reducible exact z_x_6 | (have h1 := z_x_6; simp; omega))]; first | with_reducible assumption | go_simp
    have x_2_7 : w7.cell? ⟨w1.heap.size, 2, none⟩ = some (.int .i64 b) := by rw [hc _ _ (by first | with_reducible exact z_x_6 | (have h1 := z_x_6; simp; omega))]; first | with_reducible assumption | go_simp
    have x_3_7 : w7.cell? ⟨w1.heap.size, 3, none⟩ = some (.int .i64 p) := by rw [hc _ _ (by first | with_reducible exact z_x_6 | (have h1 := z_x_6; simp; omega))]; first | with_reducible assumption | go_simp
    clear hc hf a_0_6 a_1_6 a_2_6 a_3_6 b_0_6 b_1_6 b_2_6 b_3_6 x_0_6 x_1_6 x_2_6 x_3_6
    have z_a_7 : w.heap.size < w7.heap.size := by have h1 := z_a_6; have h2 := hb7.size; first | (with_reducible exact Nat.lt_of_lt_of_le h1 h2) | omega | (simp at h2; omega)
    clear z_a_6
    have z_b_7 : nb < w7.heap.size := by have h1 := z_b_6; have h2 := hb7.size; first | (with_reducible exact Nat.lt_of_lt_of_le h1 h2) | omega | (simp at h2; omega)
    clear z_b_6
    have z_x_7 : w1.heap.size < w7.heap.size := by have h1 := z_x_6; have h2 := hb7.size; first | (with_reducible exact Nat.lt_of_lt_of_le h1 h2) | omega | (simp at h2; omega)
    clear z_x_6
    have B7 : Below w.heap.size w w7 := by
      have hs := B6.size
      refine Below.trans ?_ (hb7.mono (by first | with_reducible exact B6.size | (have := B6.size; simp; omega)))
      repeat (first | with_reducible assumption | with_reducible exact Below.refl _ _ | apply Below.drew | refine Below.setCell ?_ (by first | omega | (simp; done) | (simp; omega)) _ | refine Below.alloc ?_ (by first | omega | (simp; done) | (simp; omega)) _)
    clear hb7 B6
    go_wp2_with fail
    go_ret
    refine ⟨rfl, ?_⟩
    have hs := B7.size
    repeat (first | with_reducible assumption | with_reducible exact Below.refl _ _ | apply Below.drew | refine Below.setCell ?_ (by first | omega | (simp; done) | (simp; omega)) _ | refine Below.alloc ?_ (by first | omega | (simp; done) | (simp; omega)) _)
  · go_wp2_with fail
    go_at_call 8
    (with_reducible refine (better_good _ _ _ _ _ _ _ _ _ H.out H2.out).mono ?_)
    rintro e w6 ⟨rfl, hb6⟩
    obtain ⟨hc, hf⟩ := bcell hb6
    have a_0_6 : w6.cell? ⟨w.heap.size, 0, none⟩ = some (.int .i64 r) := by rw [hc _ _ (by first | with_reducible exact z_a_5 | (have h1 := z_a_5; simp; omega))]; first | with_reducible assumption | go_simp
    have a_1_6 : w6.cell? ⟨w.heap.size, 1, none⟩ = some (.int .i64 c) := by rw [hc _ _ (by first | with_reducible exact z_a_5 | (have h1 := z_a_5; simp; omega))]; first | with_reducible assumption | go_simp
    have a_2_6 : w6.cell? ⟨w.heap.size, 2, none⟩ = some (.int .i64 b) := by rw [hc _ _ (by first | with_reducible exact z_a_5 | (have h1 := z_a_5; simp; omega))]; first | with_reducible assumption | go_simp
    have a_3_6 : w6.cell? ⟨w.heap.size, 3, none⟩ = some (.int .i64 p) := by rw [hc _ _ (by first | with_reducible exact z_a_5 | (have h1 := z_a_5; simp; omega))]; first | with_reducible assumption | go_simp
    have b_0_6 : w6.cell? ⟨nb, 0, none⟩ = some (.int .i64 r2) := by rw [hc _ _ (by first | with_reducible exact z_b_5 | (have h1 := z_b_5; simp; omega))]; first | with_reducible assumption | go_simp
    have b_1_6 : w6.cell? ⟨nb, 1, none⟩ = some (.int .i64 c2) := by rw [hc _ _ (by first | with_reducible exact z_b_5 | (have h1 := z_b_5; simp; omega))]; first | with_reducible assumption | go_simp
    have b_2_6 : w6.cell? ⟨nb, 2, none⟩ = some (.int .i64 b2) := by rw [hc _ _ (by first | with_reducible exact z_b_5 | (have h1 := z_b_5; simp; omega))]; first | with_reducible assumption | go_simp
    have b_3_6 : w6.cell? ⟨nb, 3, none⟩ = some (.int .i64 p2) := by rw [hc _ _ (by first | with_reducible exact z_b_5 | (have h1 := z_b_5; simp; omega))]; first | with_reducible assumption | go_simp
    have x_0_6 : w6.cell? ⟨w1.heap.size, 0, none⟩ = some (.int .i64 r) := by rw [hc _ _ (by first | with_reducible exact z_x_5 | (have h1 := z_x_5; simp; omega))]; first | with_reducible assumption | go_simp
    have x_1_6 : w6.cell? ⟨w1.heap.size, 1, none⟩ = some (.int .i64 X) := by rw [hc _ _ (by first | with_reducible exact z_x_5 | (have h1 := z_x_5; simp; omega))]; first | with_reducible assumption | go_simp
    have x_2_6 : w6.cell? ⟨w1.heap.size, 2, none⟩ = some (.int .i64 b) := by rw [hc _ _ (by first | with_reducible exact z_x_5 | (have h1 := z_x_5; simp; omega))]; first | with_reducible assumption | go_simp
    have x_3_6 : w6.cell? ⟨w1.heap.size, 3, none⟩ = some (.int .i64 p) := by rw [hc _ _ (by first | with_reducible exact z_x_5 | (have h1 := z_x_5; simp; omega))]; first | with_reducible assumption | go_simp
    clear hc hf a_0_5 a_1_5 a_2_5 a_3_5 b_0_5 b_1_5 b_2_5 b_3_5 x_0_5 x_1_5 x_2_5 x_3_5
    have z_a_6 : w.heap.size < w6.heap.size := by have h1 := z_a_5; have h2 := hb6.size; first | (with_reducible exact Nat.lt_of_lt_of_le h1 h2) | omega | (simp at h2; omega)
    clear z_a_5
    have z_b_6 : nb < w6.heap.size := by have h1 := z_b_5; have h2 := hb6.size; first | (with_reducible exact Nat.lt_of_lt_of_le h1 h2) | omega | (simp at h2; omega)
    clear z_b_5
    have z_x_6 : w1.heap.size < w6.heap.size := by have h1 := z_x_5; have h2 := hb6.size; first | (with_reducible exact Nat.lt_of_lt_of_le h1 h2) | omega | (simp at h2; omega)
    clear z_x_5
    have B6 : Below w.heap.size w w6 := by
      have hs := B5.size
      refine Below.trans ?_ (hb6.mono (by first | with_reducible exact B5.size | (have := B5.size; simp; omega)))
      repeat (first | with_reducible assumption | with_reducible exact Below.refl _ _ | apply Below.drew | refine Below.setCell ?_ (by first | omega | (simp; done) | (simp; omega)) _ | refine Below.alloc ?_ (by first | omega | (simp; done) | (simp; omega)) _)
    clear hb6 B5
    rw [Hi.out]
    go_wp2_with fail
    go_at_call 9
    (with_reducible refine (far_good _ _ _ _ _ _ H2.out hn.out).mono ?_)
    rintro e w7 ⟨rfl, hb7⟩
    obtain ⟨hc, hf⟩ := bcell hb7
    have a_0_7 : w7.cell? ⟨w.heap.size, 0, none⟩ = some (.int .i64 r) := by rw [hc _ _ (by first | with_reducible exact z_a_6 | (have h1 := z_a_6; simp; omega))]; first | with_reducible assumption | go_simp
    have a_1_7 : w7.cell? ⟨w.heap.size, 1, none⟩ = some (.int .i64 c) := by rw [hc _ _ (by first | with_reducible exact z_a_6 | (have h1 := z_a_6; simp; omega))]; first | with_reducible assumption | go_simp
    have a_2_7 : w7.cell? ⟨w.heap.size, 2, none⟩ = some (.int .i64 b) := by rw [hc _ _ (by first | with_reducible exact z_a_6 | (have h1 := z_a_6; simp; omega))]; first | with_reducible assumption | go_simp
    have a_3_7 : w7.cell? ⟨w.heap.size, 3, none⟩ = some (.int .i64 p) := by rw [hc _ _ (by first | with_reducible exact z_a_6 | (have h1 := z_a_6; simp; omega))]; first | with_reducible assumption | go_simp
    have b_0_7 : w7.cell? ⟨nb, 0, none⟩ = some (.int .i64 r2) := by rw [hc _ _ (by first | with_reducible exact z_b_6 | (have h1 := z_b_6; simp; omega))]; first | with_reducible assumption | go_simp
    have b_1_7 : w7.cell? ⟨nb, 1, none⟩ = some (.int .i64 c2) := by rw [hc _ _ (by first | with_reducible exact z_b_6 | (have h1 := z_b_6; simp; omega))]; first | with_reducible assumption | go_simp
    have b_2_7 : w7.cell? ⟨nb, 2, none⟩ = some (.int .i64 b2) := by rw [hc _ _ (by first | with_reducible exact z_b_6 | (have h1 := z_b_6; simp; omega))]; first | with_reducible assumption | go_simp
    have b_3_7 : w7.cell? ⟨nb, 3, none⟩ = some (.int .i64 p2) := by rw [hc _ _ (by first | with_reducible exact z_b_6 | (have h1 := z_b_6; simp; omega))]; first | with_reducible assumption | go_simp
    have x_0_7 : w7.cell? ⟨w1.heap.size, 0, none⟩ = some (.int .i64 r) := by rw [hc _ _ (by first | with_reducible exact z_x_6 | (have h1 := z_x_6; simp; omega))]; first | with_reducible assumption | go_simp
    have x_1_7 : w7.cell? ⟨w1.heap.size, 1, none⟩ = some (.int .i64 X) := by rw [hc _ _ (by first | with_reducible exact z_x_6 | (have h1 := z_x_6; simp; omega))]; first | with_reducible assumption | go_simp
    have x_2_7 : w7.cell? ⟨w1.heap.size, 2, none⟩ = some (.int .i64 b) := by rw [hc _ _ (by first | with_reducible exact z_x_6 | (have h1 := z_x_6; simp; omega))]; first | with_reducible assumption | go_simp
    have x_3_7 : w7.cell? ⟨w1.heap.size, 3, none⟩ = some (.int .i64 p) := by rw [hc _ _ (by first | with_reducible exact z_x_6 | (have h1 := z_x_6; simp; omega))]; first | with_reducible assumption | go_simp
    clear hc hf a_0_6 a_1_6 a_2_6 a_3_6 b_0_6 b_1_6 b_2_6 b_3_6 x_0_6 x_1_6 x_2_6 x_3_6
    have z_a_7 : w.heap.size < w7.heap.size := by have h1 := z_a_6; have h2 := hb7.size; first | (with_reducible exact Nat.lt_of_lt_of_le h1 h2) | omega | (simp at h2; omega)
    clear z_a_6
    have z_b_7 : nb < w7.heap.size := by have h1 := z_b_6; have h2 := hb7.size; first | (with_reducible exact Nat.lt_of_lt_of_le h1 h2) | omega | (simp at h2; omega)
    clear z_b_6
    have z_x_7 : w1.heap.size < w7.heap.size := by have h1 := z_x_6; have h2 := hb7.size; first | (with_reducible exact Nat.lt_of_lt_of_le h1 h2) | omega | (simp at h2; omega)
    clear z_x_6
    have B7 : Below w.heap.size w w7 := by
      have hs := B6.size
      refine Below.trans ?_ (hb7.mono (by first | with_reducible exact B6.size | (have := B6.size; simp; omega)))
      repeat (first | with_reducible assumption | with_reducible exact Below.refl _ _ | apply Below.drew | refine Below.setCell ?_ (by first | omega | (simp; done) | (simp; omega)) _ | refine Below.alloc ?_ (by first | omega | (simp; done) | (simp; omega)) _)
    clear hb7 B6
    obtain ⟨U, hU⟩ : ∃ U, min (c2 + n) 2147483647 = U := ⟨_, rfl⟩
    obtain ⟨u0, u1, _, _⟩ := far_min c2 c2 (okV_cost H2.out) (okV_cost H2.out)
    have u2 : 0 ≤ U := by omega
    have u3 : U ≤ 2147483647 := by omega
    rw [hU]
    have hU := Lib.hid hU.symm
    have okU := Lib.hid (okV_far H2.out u2 u3)
    go_wp2_with fail
    go_at_call 8
    (with_reducible refine (better_good _ _ _ _ _ _ _ _ _ okU.out okX.out).mono ?_)
    rintro e w8 ⟨rfl, hb8⟩
    obtain ⟨hc, hf⟩ := bcell hb8
    have a_0_8 : w8.cell? ⟨w.heap.size, 0, none⟩ = some (.int .i64 r) := by rw [hc _ _ (by first | with_reducible exact z_a_7 | (have h1 := z_a_7; simp; omega))]; first | with_reducible assumption | go_simp
    have a_1_8 : w8.cell? ⟨w.heap.size, 1, none⟩ = some (.int .i64 c) := by rw [hc _ _ (by first | with_reducible exact z_a_7 | (have h1 := z_a_7; simp; omega))]; first | with_reducible assumption | go_simp
    have a_2_8 : w8.cell? ⟨w.heap.size, 2, none⟩ = some (.int .i64 b) := by rw [hc _ _ (by first | with_reducible exact z_a_7 | (have h1 := z_a_7; simp; omega))]; first | with_reducible assumption | go_simp
    have a_3_8 : w8.cell? ⟨w.heap.size, 3, none⟩ = some (.int .i64 p) := by rw [hc _ _ (by first | with_reducible exact z_a_7 | (have h1 := z_a_7; simp; omega))]; first | with_reducible assumption | go_simp
    have b_0_8 : w8.cell? ⟨nb, 0, none⟩ = some (.int .i64 r2) := by rw [hc _ _ (by first | with_reducible exact z_b_7 | (have h1 := z_b_7; simp; omega))]; first | with_reducible assumption | go_simp
    have b_1_8 : w8.cell? ⟨nb, 1, none⟩ = some (.int .i64 c2) := by rw [hc _ _ (by first | with_reducible exact z_b_7 | (have h1 := z_b_7; simp; omega))]; first | with_reducible assumption | go_simp
    have b_2_8 : w8.cell? ⟨nb, 2, none⟩ = some (.int .i64 b2) := by rw [hc _ _ (by first | with_reducible exact z_b_7 | (have h1 := z_b_7; simp; omega))]; first | with_reducible assumption | go_simp
    have b_3_8 : w8.cell? ⟨nb, 3, none⟩ = some (.int .i64 p2) := by rw [hc _ _ (by first | with_reducible exact z_b_7 | (have h1 := z_b_7; simp; omega))]; first | with_reducible assumption | go_simp
    have x_0_8 : w8.cell? ⟨w1.heap.size, 0, none⟩ = some (.int .i64 r) := by rw [hc _ _ (by first | with_reducible exact z_x_7 | (have h1 := z_x_7; simp; omega))]; first | with_reducible assumption | go_simp
    have x_1_8 : w8.cell? ⟨w1.heap.size, 1, none⟩ = some (.int .i64 X) := by rw [hc _ _ (by first | with_reducible exact z_x_7 | (have h1 := z_x_7; simp; omega))]; first | with_reducible assumption | go_simp
    have x_2_8 : w8.cell? ⟨w1.heap.size, 2, none⟩ = some (.int .i64 b) := by rw [hc _ _ (by first | with_reducible exact z_x_7 | (have h1 := z_x_7; simp; omega))]; first | with_reducible assumption | go_simp
    have x_3_8 : w8.cell? ⟨w1.heap.size, 3, none⟩ = some (.int .i64 p) := by rw [hc _ _ (by first | with_reducible exact z_x_7 | (have h1 := z_x_7; simp; omega))]; first | with_reducible assumption | go_simp
    have u_0_8 : w8.cell? ⟨w7.heap.size, 0, none⟩ = some (.int .i64 r2) := by rw [hc _ _ (by first | with_reducible assumption | omega | (simp; done) | (simp; omega))]; first | with_reducible assumption | go_simp
    have u_1_8 : w8.cell? ⟨w7.heap.size, 1, none⟩ = some (.int .i64 U) := by rw [hc _ _ (by first | with_reducible assumption | omega | (simp; done) | (simp; omega))]; first | with_reducible assumption | go_simp
    have u_2_8 : w8.cell? ⟨w7.heap.size, 2, none⟩ = some (.int .i64 b2) := by rw [hc _ _ (by first | with_reducible assumption | omega | (simp; done) | (simp; omega))]; first | with_reducible assumption | go_simp
    have u_3_8 : w8.cell? ⟨w7.heap.size, 3, none⟩ = some (.int .i64 p2) := by rw [hc _ _ (by first | with_reducible assumption | omega | (simp; done) | (simp; omega))]; first | with_reducible assumption | go_simp
    clear hc hf a_0_7 a_1_7 a_2_7 a_3_7 b_0_7 b_1_7 b_2_7 b_3_7 x_0_7 x_1_7 x_2_7 x_3_7
    have z_a_8 : w.heap.size < w8.heap.size := by have h1 := z_a_7; have h2 := hb8.size; first | (with_reducible exact Nat.lt_of_lt_of_le h1 h2) | omega | (simp at h2; omega)
    clear z_a_7
    have z_b_8 : nb < w8.heap.size := by have h1 := z_b_7; have h2 := hb8.size; first | (with_reducible exact Nat.lt_of_lt_of_le h1 h2) | omega | (simp at h2; omega)
    clear z_b_7
    have z_x_8 : w1.heap.size < w8.heap.size := by have h1 := z_x_7; have h2 := hb8.size; first | (with_reducible exact Nat.lt_of_lt_of_le h1 h2) | omega | (simp at h2; omega)
    clear z_x_7
    have z_u_8 : w7.heap.size < w8.heap.size := by have h2 := hb8.size; first | omega | (simp at h2; omega)
    have B8 : Below w.heap.size w w8 := by
      have hs := B7.size
      refine Below.trans ?_ (hb8.mono (by first | with_reducible exact B7.size | (have := B7.size; simp; omega)))
      repeat (first | with_reducible assumption | with_reducible exact Below.refl _ _ | apply Below.drew | refine Below.setCell ?_ (by first | omega | (simp; done) | (simp; omega)) _ | refine Below.alloc ?_ (by first | omega | (simp; done) | (simp; omega)) _)
    clear hb8 B7
    cases is
    · go_wp2_with fail
      go_ret
      exact ⟨rfl, B8⟩
    · cases hw : betB r2 U b2 p2 r X b p
      · go_wp2_with fail
        go_ret
        exact ⟨rfl, B8⟩
      · have hm := far_more hX.out hU.out Hi.out hw
        have hm' := Lib.hid hm
        have hq : (U == 2147483647) = true := by simpa using hm
        clear hm hw
        go_wp2_with fail
        go_ret
        exact ⟨rfl, B8⟩

theorem vfar_law (r c b p r2 c2 b2 p2 n m : Int) (w0 : (Lit.int .i64 r).wf = true) (w1 : (Lit.int .i64 c).wf = true) (w2 : (Lit.int .i64 b).wf = true) (w3 : (Lit.int .i64 p).wf = true) (x0 : (Lit.int .i64 r2).wf = true) (x1 : (Lit.int .i64 c2).wf = true) (x2 : (Lit.int .i64 b2).wf = true) (x3 : (Lit.int .i64 p2).wf = true) (y0 : (Lit.int .i64 n).wf = true) (y1 : (Lit.int .i64 m).wf = true) (w : World) :
    Calls Try.prog 5 #[vv r c b p, vv r2 c2 b2 p2, .int .i64 n, .int .i64 m] w fun e w' => e = .returned (.bool true) ∧ Below w.heap.size w w' := by
  cases h : okV r c b p
  · exact vfar_bad _ _ _ _ _ _ _ _ _ _ w h
  · exact vfar_good _ _ _ _ _ _ _ _ _ _ w _ _ h rfl rfl
end Go.Proofs.Ytanceablbmgblaa.VecP
