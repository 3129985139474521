/-
  Plain facts of vecs, and the walk of VecOrder.
-/
import Derived.Test.YtanceablbmgblaaVecE
namespace Go.Proofs.Ytanceablbmgblaa.VecP
open Go.RowKit Go.Sort
set_option linter.unusedVariables false
set_option maxRecDepth 100000

theorem cmpI_cases (a b : Int) : (a < b ∧ cmpI a b = -1) ∨ (a = b ∧ cmpI a b = 0) ∨ (b < a ∧ cmpI a b = 1) := by
  unfold cmpI
  by_cases h : a < b
  · rw [if_pos h]; omega
  · rw [if_neg h]
    by_cases h1 : b < a
    · rw [if_pos h1]; omega
    · rw [if_neg h1]; omega
/-- Better, in words. -/
theorem betB_iff (r c b p r2 c2 b2 p2 : Int) : betB r c b p r2 c2 b2 p2 = true ↔ (r < r2 ∨ r = r2 ∧ (c < c2 ∨ c = c2 ∧ (b < b2 ∨ b = b2 ∧ p < p2))) := by
  unfold betB cmpV
  rw [decide_eq_true_iff]
  rcases cmpI_cases r r2 with ⟨h, e⟩ | ⟨h, e⟩ | ⟨h, e⟩ <;> rcases cmpI_cases c c2 with ⟨h1, e1⟩ | ⟨h1, e1⟩ | ⟨h1, e1⟩ <;> rcases cmpI_cases b b2 with ⟨h2, e2⟩ | ⟨h2, e2⟩ | ⟨h2, e2⟩ <;> rcases cmpI_cases p p2 with ⟨h3, e3⟩ | ⟨h3, e3⟩ | ⟨h3, e3⟩ <;> (repeat' split) <;> omega
theorem betB_false (r c b p r2 c2 b2 p2 : Int) : betB r c b p r2 c2 b2 p2 = false ↔ ¬ (r < r2 ∨ r = r2 ∧ (c < c2 ∨ c = c2 ∧ (b < b2 ∨ b = b2 ∧ p < p2))) := by
  rw [← betB_iff, Bool.not_eq_true]
theorem betB_self (r c b p : Int) : betB r c b p r c b p = false := by rw [betB_false]; omega
theorem betB_trans {r c b p r2 c2 b2 p2 r3 c3 b3 p3 : Int} (h : betB r c b p r2 c2 b2 p2 = true) (h1 : betB r2 c2 b2 p2 r3 c3 b3 p3 = true) : betB r c b p r3 c3 b3 p3 = true := by
  rw [betB_iff] at *; omega
theorem betB_one {r c b p r2 c2 b2 p2 : Int} (h : ¬ (r = r2 ∧ c = c2 ∧ b = b2 ∧ p = p2)) : betB r2 c2 b2 p2 r c b p = !betB r c b p r2 c2 b2 p2 := by
  cases h1 : betB r c b p r2 c2 b2 p2
  · show _ = true
    rw [betB_iff]; rw [betB_false] at h1; omega
  · show _ = false
    rw [betB_false]; rw [betB_iff] at h1; omega

set_option maxHeartbeats 2000000 in
theorem order_bad (r c b p r2 c2 b2 p2 r3 c3 b3 p3 : Int) (w : World) (h : (okV r c b p && okV r2 c2 b2 p2) = false) :
    Calls Try.prog 4 #[vv r c b p, vv r2 c2 b2 p2, vv r3 c3 b3 p3] w fun e w' => e = .returned (.bool true) ∧ Below w.heap.size w w' := by
  have H := Lib.hid h
  have H2 : Hid ((okV r2 c2 b2 p2 && okV r c b p) = false) := Lib.hid (by rw [Bool.and_comm]; exact h)
  clear h
  go_enter Try.func4, Try.ntmps4
  go_wp2_with fail
  go_at_call 8
  (with_reducible refine (better_bad _ _ _ _ _ _ _ _ _ H.out).mono ?_)
  rintro e w1 ⟨rfl, hb1⟩
  obtain ⟨hc, hf⟩ := bcell hb1
  have a_0_1 : w1.cell? ⟨w.heap.size, 0, none⟩ = some (.int .i64 r) := by rw [hc _ _ (by first | with_reducible assumption | omega | (simp; done) | (simp; omega))]; go_simp
  have a_1_1 : w1.cell? ⟨w.heap.size, 1, none⟩ = some (.int .i64 c) := by rw [hc _ _ (by first | with_reducible assumption | omega | (simp; done) | (simp; omega))]; go_simp
  have a_2_1 : w1.cell? ⟨w.heap.size, 2, none⟩ = some (.int .i64 b) := by rw [hc _ _ (by first | with_reducible assumption | omega | (simp; done) | (simp; omega))]; go_simp
  have a_3_1 : w1.cell? ⟨w.heap.size, 3, none⟩ = some (.int .i64 p) := by rw [hc _ _ (by first | with_reducible assumption | omega | (simp; done) | (simp; omega))]; go_simp
  have b_0_1 : w1.cell? ⟨w.heap.size + 1, 0, none⟩ = some (.int .i64 r2) := by rw [hc _ _ (by first | with_reducible assumption | omega | (simp; done) | (simp; omega))]; go_simp
  have b_1_1 : w1.cell? ⟨w.heap.size + 1, 1, none⟩ = some (.int .i64 c2) := by rw [hc _ _ (by first | with_reducible assumption | omega | (simp; done) | (simp; omega))]; go_simp
  have b_2_1 : w1.cell? ⟨w.heap.size + 1, 2, none⟩ = some (.int .i64 b2) := by rw [hc _ _ (by first | with_reducible assumption | omega | (simp; done) | (simp; omega))]; go_simp
  have b_3_1 : w1.cell? ⟨w.heap.size + 1, 3, none⟩ = some (.int .i64 p2) := by rw [hc _ _ (by first | with_reducible assumption | omega | (simp; done) | (simp; omega))]; go_simp
  clear hc hf
  have z_a_1 : Hid (w.heap.size < w1.heap.size) := Lib.hid (by have h2 := hb1.size; first | omega | (simp at h2; omega))
  have z_b_1 : Hid (w.heap.size + 1 < w1.heap.size) := Lib.hid (by have h2 := hb1.size; first | omega | (simp at h2; omega))
  have B1 : Below w.heap.size w w1 := by
    refine Below.trans ?_ (hb1.mono (by first | with_reducible exact Nat.le_refl _ | (simp; done) | (simp; omega)))
    repeat (first | with_reducible assumption | with_reducible exact Below.refl _ _ | apply Below.drew | refine Below.setCell ?_ (by first | omega | (simp; done) | (simp; omega)) _ | refine Below.alloc ?_ (by first | omega | (simp; done) | (simp; omega)) _)
  clear hb1
  go_wp2_with fail
  go_at_call 8
  (with_reducible refine (better_bad _ _ _ _ _ _ _ _ _ H2.out).mono ?_)
  rintro e w2 ⟨rfl, hb2⟩
  obtain ⟨hc, hf⟩ := bcell hb2
  have a_0_2 : w2.cell? ⟨w.heap.size, 0, none⟩ = some (.int .i64 r) := by rw [hc _ _ z_a_1.out]; go_simp
  have a_1_2 : w2.cell? ⟨w.heap.size, 1, none⟩ = some (.int .i64 c) := by rw [hc _ _ z_a_1.out]; go_simp
  have a_2_2 : w2.cell? ⟨w.heap.size, 2, none⟩ = some (.int .i64 b) := by rw [hc _ _ z_a_1.out]; go_simp
  have a_3_2 : w2.cell? ⟨w.heap.size, 3, none⟩ = some (.int .i64 p) := by rw [hc _ _ z_a_1.out]; go_simp
  have b_0_2 : w2.cell? ⟨w.heap.size + 1, 0, none⟩ = some (.int .i64 r2) := by rw [hc _ _ z_b_1.out]; go_simp
  have b_1_2 : w2.cell? ⟨w.heap.size + 1, 1, none⟩ = some (.int .i64 c2) := by rw [hc _ _ z_b_1.out]; go_simp
  have b_2_2 : w2.cell? ⟨w.heap.size + 1, 2, none⟩ = some (.int .i64 b2) := by rw [hc _ _ z_b_1.out]; go_simp
  have b_3_2 : w2.cell? ⟨w.heap.size + 1, 3, none⟩ = some (.int .i64 p2) := by rw [hc _ _ z_b_1.out]; go_simp
  clear hc hf a_0_1 a_1_1 a_2_1 a_3_1 b_0_1 b_1_1 b_2_1 b_3_1
  have z_a_2 : Hid (w.heap.size < w2.heap.size) := Lib.hid (by have h1 := z_a_1.out; have h2 := hb2.size; first | (with_reducible exact Nat.lt_of_lt_of_le h1 h2) | omega | (simp at h2; omega))
  clear z_a_1
  have z_b_2 : Hid (w.heap.size + 1 < w2.heap.size) := Lib.hid (by have h1 := z_b_1.out; have h2 := hb2.size; first | (with_reducible exact Nat.lt_of_lt_of_le h1 h2) | omega | (simp at h2; omega))
  clear z_b_1
  have B2 : Below w.heap.size w w2 := by
    refine Below.trans ?_ (hb2.mono (by first | with_reducible exact B1.size | (have := B1.size; simp; omega)))
    repeat (first | with_reducible assumption | with_reducible exact Below.refl _ _ | apply Below.drew | refine Below.setCell ?_ (by first | omega | (simp; done) | (simp; omega)) _ | refine Below.alloc ?_ (by first | omega | (simp; done) | (simp; omega)) _)
  clear hb2 B1
  clear a_0_2 a_1_2 a_2_2 a_3_2 z_a_2
  clear b_0_2 b_1_2 b_2_2 b_3_2 z_b_2
  go_wp2_with fail
  go_at_call 14
  (with_reducible refine (alive_any _).mono ?_)
  rintro e w3 ⟨rfl, hb3⟩
  obtain ⟨hc, hf⟩ := bcell hb3
  clear hc hf
  have B3 : Below w.heap.size w w3 := by
    refine Below.trans ?_ (hb3.mono (by first | with_reducible exact B2.size | (have := B2.size; simp; omega)))
    repeat (first | with_reducible assumption | with_reducible exact Below.refl _ _ | apply Below.drew | refine Below.setCell ?_ (by first | omega | (simp; done) | (simp; omega)) _ | refine Below.alloc ?_ (by first | omega | (simp; done) | (simp; omega)) _)
  clear hb3 B2
  go_wp2_with fail
  go_ret
  exact ⟨rfl, B3⟩

set_option maxHeartbeats 4000000 in
theorem order_same (r c b p  r3 c3 b3 p3 : Int) (w : World) (x ab bc ac : Bool) (h : okV r c b p = true) (h2 : okV r c b p = true) (h3 : okV r3 c3 b3 p3 = x) (hab : betB r c b p r c b p = false) (hba : betB r c b p r c b p = false) (hbc : betB r c b p r3 c3 b3 p3 = bc) (hac : betB r c b p r3 c3 b3 p3 = ac) (ht : (ab && bc) = true → ac = true) (ha : ab = false) :
    Calls Try.prog 4 #[vv r c b p, vv r c b p, vv r3 c3 b3 p3] w fun e w' => e = .returned (.bool true) ∧ Below w.heap.size w w' := by
  have H := Lib.hid h
  have H2 := Lib.hid h2
  have H3 := Lib.hid h3
  have Hab := Lib.hid hab
  have Hba := Lib.hid hba
  have Hbc := Lib.hid hbc
  have Hac := Lib.hid hac
  have Ht := Lib.hid ht
  subst ha
  clear h h2 h3 hab hba hbc hac ht
  go_enter Try.func4, Try.ntmps4
  go_wp2_with fail
  go_at_call 8
  (with_reducible refine (better_good _ _ _ _ _ _ _ _ _ H.out H2.out).mono ?_)
  rintro e w1 ⟨rfl, hb1⟩
  obtain ⟨hc, hf⟩ := bcell hb1
  have a_0_1 : w1.cell? ⟨w.heap.size, 0, none⟩ = some (.int .i64 r) := by rw [hc _ _ (by first | with_reducible assumption | omega | (simp; done) | (simp; omega))]; go_simp
  have a_1_1 : w1.cell? ⟨w.heap.size, 1, none⟩ = some (.int .i64 c) := by rw [hc _ _ (by first | with_reducible assumption | omega | (simp; done) | (simp; omega))]; go_simp
  have a_2_1 : w1.cell? ⟨w.heap.size, 2, none⟩ = some (.int .i64 b) := by rw [hc _ _ (by first | with_reducible assumption | omega | (simp; done) | (simp; omega))]; go_simp
  have a_3_1 : w1.cell? ⟨w.heap.size, 3, none⟩ = some (.int .i64 p) := by rw [hc _ _ (by first | with_reducible assumption | omega | (simp; done) | (simp; omega))]; go_simp
  have b_0_1 : w1.cell? ⟨w.heap.size + 1, 0, none⟩ = some (.int .i64 r) := by rw [hc _ _ (by first | with_reducible assumption | omega | (simp; done) | (simp; omega))]; go_simp
  have b_1_1 : w1.cell? ⟨w.heap.size + 1, 1, none⟩ = some (.int .i64 c) := by rw [hc _ _ (by first | with_reducible assumption | omega | (simp; done) | (simp; omega))]; go_simp
  have b_2_1 : w1.cell? ⟨w.heap.size + 1, 2, none⟩ = some (.int .i64 b) := by rw [hc _ _ (by first | with_reducible assumption | omega | (simp; done) | (simp; omega))]; go_simp
  have b_3_1 : w1.cell? ⟨w.heap.size + 1, 3, none⟩ = some (.int .i64 p) := by rw [hc _ _ (by first | with_reducible assumption | omega | (simp; done) | (simp; omega))]; go_simp
  have c_0_1 : w1.cell? ⟨w.heap.size + 1 + 1, 0, none⟩ = some (.int .i64 r3) := by rw [hc _ _ (by first | with_reducible assumption | omega | (simp; done) | (simp; omega))]; go_simp
  have c_1_1 : w1.cell? ⟨w.heap.size + 1 + 1, 1, none⟩ = some (.int .i64 c3) := by rw [hc _ _ (by first | with_reducible assumption | omega | (simp; done) | (simp; omega))]; go_simp
  have c_2_1 : w1.cell? ⟨w.heap.size + 1 + 1, 2, none⟩ = some (.int .i64 b3) := by rw [hc _ _ (by first | with_reducible assumption | omega | (simp; done) | (simp; omega))]; go_simp
  have c_3_1 : w1.cell? ⟨w.heap.size + 1 + 1, 3, none⟩ = some (.int .i64 p3) := by rw [hc _ _ (by first | with_reducible assumption | omega | (simp; done) | (simp; omega))]; go_simp
  clear hc hf
  have z_a_1 : Hid (w.heap.size < w1.heap.size) := Lib.hid (by have h2 := hb1.size; first | omega | (simp at h2; omega))
  have z_b_1 : Hid (w.heap.size + 1 < w1.heap.size) := Lib.hid (by have h2 := hb1.size; first | omega | (simp at h2; omega))
  have z_c_1 : Hid (w.heap.size + 1 + 1 < w1.heap.size) := Lib.hid (by have h2 := hb1.size; first | omega | (simp at h2; omega))
  have B1 : Below w.heap.size w w1 := by
    refine Below.trans ?_ (hb1.mono (by first | with_reducible exact Nat.le_refl _ | (simp; done) | (simp; omega)))
    repeat (first | with_reducible assumption | with_reducible exact Below.refl _ _ | apply Below.drew | refine Below.setCell ?_ (by first | omega | (simp; done) | (simp; omega)) _ | refine Below.alloc ?_ (by first | omega | (simp; done) | (simp; omega)) _)
  clear hb1
  rw [Hab.out]
  go_wp2_with fail
  go_at_call 8
  (with_reducible refine (better_good _ _ _ _ _ _ _ _ _ H2.out H.out).mono ?_)
  rintro e w2 ⟨rfl, hb2⟩
  obtain ⟨hc, hf⟩ := bcell hb2
  have a_0_2 : w2.cell? ⟨w.heap.size, 0, none⟩ = some (.int .i64 r) := by rw [hc _ _ z_a_1.out]; go_simp
  have a_1_2 : w2.cell? ⟨w.heap.size, 1, none⟩ = some (.int .i64 c) := by rw [hc _ _ z_a_1.out]; go_simp
  have a_2_2 : w2.cell? ⟨w.heap.size, 2, none⟩ = some (.int .i64 b) := by rw [hc _ _ z_a_1.out]; go_simp
  have a_3_2 : w2.cell? ⟨w.heap.size, 3, none⟩ = some (.int .i64 p) := by rw [hc _ _ z_a_1.out]; go_simp
  have b_0_2 : w2.cell? ⟨w.heap.size + 1, 0, none⟩ = some (.int .i64 r) := by rw [hc _ _ z_b_1.out]; go_simp
  have b_1_2 : w2.cell? ⟨w.heap.size + 1, 1, none⟩ = some (.int .i64 c) := by rw [hc _ _ z_b_1.out]; go_simp
  have b_2_2 : w2.cell? ⟨w.heap.size + 1, 2, none⟩ = some (.int .i64 b) := by rw [hc _ _ z_b_1.out]; go_simp
  have b_3_2 : w2.cell? ⟨w.heap.size + 1, 3, none⟩ = some (.int .i64 p) := by rw [hc _ _ z_b_1.out]; go_simp
  have c_0_2 : w2.cell? ⟨w.heap.size + 1 + 1, 0, none⟩ = some (.int .i64 r3) := by rw [hc _ _ z_c_1.out]; go_simp
  have c_1_2 : w2.cell? ⟨w.heap.size + 1 + 1, 1, none⟩ = some (.int .i64 c3) := by rw [hc _ _ z_c_1.out]; go_simp
  have c_2_2 : w2.cell? ⟨w.heap.size + 1 + 1, 2, none⟩ = some (.int .i64 b3) := by rw [hc _ _ z_c_1.out]; go_simp
  have c_3_2 : w2.cell? ⟨w.heap.size + 1 + 1, 3, none⟩ = some (.int .i64 p3) := by rw [hc _ _ z_c_1.out]; go_simp
  clear hc hf a_0_1 a_1_1 a_2_1 a_3_1 b_0_1 b_1_1 b_2_1 b_3_1 c_0_1 c_1_1 c_2_1 c_3_1
  have z_a_2 : Hid (w.heap.size < w2.heap.size) := Lib.hid (by have h1 := z_a_1.out; have h2 := hb2.size; first | (with_reducible exact Nat.lt_of_lt_of_le h1 h2) | omega | (simp at h2; omega))
  clear z_a_1
  have z_b_2 : Hid (w.heap.size + 1 < w2.heap.size) := Lib.hid (by have h1 := z_b_1.out; have h2 := hb2.size; first | (with_reducible exact Nat.lt_of_lt_of_le h1 h2) | omega | (simp at h2; omega))
  clear z_b_1
  have z_c_2 : Hid (w.heap.size + 1 + 1 < w2.heap.size) := Lib.hid (by have h1 := z_c_1.out; have h2 := hb2.size; first | (with_reducible exact Nat.lt_of_lt_of_le h1 h2) | omega | (simp at h2; omega))
  clear z_c_1
  have B2 : Below w.heap.size w w2 := by
    refine Below.trans ?_ (hb2.mono (by first | with_reducible exact B1.size | (have := B1.size; simp; omega)))
    repeat (first | with_reducible assumption | with_reducible exact Below.refl _ _ | apply Below.drew | refine Below.setCell ?_ (by first | omega | (simp; done) | (simp; omega)) _ | refine Below.alloc ?_ (by first | omega | (simp; done) | (simp; omega)) _)
  clear hb2 B1
  rw [Hba.out]
  go_wp2_with fail
  go_at_call 14
  (with_reducible refine (alive_any _).mono ?_)
  rintro e w3 ⟨rfl, hb3⟩
  obtain ⟨hc, hf⟩ := bcell hb3
  have a_0_3 : w3.cell? ⟨w.heap.size, 0, none⟩ = some (.int .i64 r) := by rw [hc _ _ z_a_2.out]; go_simp
  have a_1_3 : w3.cell? ⟨w.heap.size, 1, none⟩ = some (.int .i64 c) := by rw [hc _ _ z_a_2.out]; go_simp
  have a_2_3 : w3.cell? ⟨w.heap.size, 2, none⟩ = some (.int .i64 b) := by rw [hc _ _ z_a_2.out]; go_simp
  have a_3_3 : w3.cell? ⟨w.heap.size, 3, none⟩ = some (.int .i64 p) := by rw [hc _ _ z_a_2.out]; go_simp
  have b_0_3 : w3.cell? ⟨w.heap.size + 1, 0, none⟩ = some (.int .i64 r) := by rw [hc _ _ z_b_2.out]; go_simp
  have b_1_3 : w3.cell? ⟨w.heap.size + 1, 1, none⟩ = some (.int .i64 c) := by rw [hc _ _ z_b_2.out]; go_simp
  have b_2_3 : w3.cell? ⟨w.heap.size + 1, 2, none⟩ = some (.int .i64 b) := by rw [hc _ _ z_b_2.out]; go_simp
  have b_3_3 : w3.cell? ⟨w.heap.size + 1, 3, none⟩ = some (.int .i64 p) := by rw [hc _ _ z_b_2.out]; go_simp
  have c_0_3 : w3.cell? ⟨w.heap.size + 1 + 1, 0, none⟩ = some (.int .i64 r3) := by rw [hc _ _ z_c_2.out]; go_simp
  have c_1_3 : w3.cell? ⟨w.heap.size + 1 + 1, 1, none⟩ = some (.int .i64 c3) := by rw [hc _ _ z_c_2.out]; go_simp
  have c_2_3 : w3.cell? ⟨w.heap.size + 1 + 1, 2, none⟩ = some (.int .i64 b3) := by rw [hc _ _ z_c_2.out]; go_simp
  have c_3_3 : w3.cell? ⟨w.heap.size + 1 + 1, 3, none⟩ = some (.int .i64 p3) := by rw [hc _ _ z_c_2.out]; go_simp
  clear hc hf a_0_2 a_1_2 a_2_2 a_3_2 b_0_2 b_1_2 b_2_2 b_3_2 c_0_2 c_1_2 c_2_2 c_3_2
  have z_a_3 : Hid (w.heap.size < w3.heap.size) := Lib.hid (by have h1 := z_a_2.out; have h2 := hb3.size; first | (with_reducible exact Nat.lt_of_lt_of_le h1 h2) | omega | (simp at h2; omega))
  clear z_a_2
  have z_b_3 : Hid (w.heap.size + 1 < w3.heap.size) := Lib.hid (by have h1 := z_b_2.out; have h2 := hb3.size; first | (with_reducible exact Nat.lt_of_lt_of_le h1 h2) | omega | (simp at h2; omega))
  clear z_b_2
  have z_c_3 : Hid (w.heap.size + 1 + 1 < w3.heap.size) := Lib.hid (by have h1 := z_c_2.out; have h2 := hb3.size; first | (with_reducible exact Nat.lt_of_lt_of_le h1 h2) | omega | (simp at h2; omega))
  clear z_c_2
  have B3 : Below w.heap.size w w3 := by
    refine Below.trans ?_ (hb3.mono (by first | with_reducible exact B2.size | (have := B2.size; simp; omega)))
    repeat (first | with_reducible assumption | with_reducible exact Below.refl _ _ | apply Below.drew | refine Below.setCell ?_ (by first | omega | (simp; done) | (simp; omega)) _ | refine Below.alloc ?_ (by first | omega | (simp; done) | (simp; omega)) _)
  clear hb3 B2
  cases x
  · go_wp2_with fail
    go_at_call 8
    (with_reducible refine (better_bad _ _ _ _ _ _ _ _ _ (by rw [H3.out, Bool.and_false])).mono ?_)
    rintro e w4 ⟨rfl, hb4⟩
    obtain ⟨hc, hf⟩ := bcell hb4
    have a_0_4 : w4.cell? ⟨w.heap.size, 0, none⟩ = some (.int .i64 r) := by rw [hc _ _ z_a_3.out]; go_simp
    have a_1_4 : w4.cell? ⟨w.heap.size, 1, none⟩ = some (.int .i64 c) := by rw [hc _ _ z_a_3.out]; go_simp
    have a_2_4 : w4.cell? ⟨w.heap.size, 2, none⟩ = some (.int .i64 b) := by rw [hc _ _ z_a_3.out]; go_simp
    have a_3_4 : w4.cell? ⟨w.heap.size, 3, none⟩ = some (.int .i64 p) := by rw [hc _ _ z_a_3.out]; go_simp
    have b_0_4 : w4.cell? ⟨w.heap.size + 1, 0, none⟩ = some (.int .i64 r) := by rw [hc _ _ z_b_3.out]; go_simp
    have b_1_4 : w4.cell? ⟨w.heap.size + 1, 1, none⟩ = some (.int .i64 c) := by rw [hc _ _ z_b_3.out]; go_simp
    have b_2_4 : w4.cell? ⟨w.heap.size + 1, 2, none⟩ = some (.int .i64 b) := by rw [hc _ _ z_b_3.out]; go_simp
    have b_3_4 : w4.cell? ⟨w.heap.size + 1, 3, none⟩ = some (.int .i64 p) := by rw [hc _ _ z_b_3.out]; go_simp
    have c_0_4 : w4.cell? ⟨w.heap.size + 1 + 1, 0, none⟩ = some (.int .i64 r3) := by rw [hc _ _ z_c_3.out]; go_simp
    have c_1_4 : w4.cell? ⟨w.heap.size + 1 + 1, 1, none⟩ = some (.int .i64 c3) := by rw [hc _ _ z_c_3.out]; go_simp
    have c_2_4 : w4.cell? ⟨w.heap.size + 1 + 1, 2, none⟩ = some (.int .i64 b3) := by rw [hc _ _ z_c_3.out]; go_simp
    have c_3_4 : w4.cell? ⟨w.heap.size + 1 + 1, 3, none⟩ = some (.int .i64 p3) := by rw [hc _ _ z_c_3.out]; go_simp
    clear hc hf a_0_3 a_1_3 a_2_3 a_3_3 b_0_3 b_1_3 b_2_3 b_3_3 c_0_3 c_1_3 c_2_3 c_3_3
    have z_a_4 : Hid (w.heap.size < w4.heap.size) := Lib.hid (by have h1 := z_a_3.out; have h2 := hb4.size; first | (with_reducible exact Nat.lt_of_lt_of_le h1 h2) | omega | (simp at h2; omega))
    clear z_a_3
    have z_b_4 : Hid (w.heap.size + 1 < w4.heap.size) := Lib.hid (by have h1 := z_b_3.out; have h2 := hb4.size; first | (with_reducible exact Nat.lt_of_lt_of_le h1 h2) | omega | (simp at h2; omega))
    clear z_b_3
    have z_c_4 : Hid (w.heap.size + 1 + 1 < w4.heap.size) := Lib.hid (by have h1 := z_c_3.out; have h2 := hb4.size; first | (with_reducible exact Nat.lt_of_lt_of_le h1 h2) | omega | (simp at h2; omega))
    clear z_c_3
    have B4 : Below w.heap.size w w4 := by
      refine Below.trans ?_ (hb4.mono (by first | with_reducible exact B3.size | (have := B3.size; simp; omega)))
      repeat (first | with_reducible assumption | with_reducible exact Below.refl _ _ | apply Below.drew | refine Below.setCell ?_ (by first | omega | (simp; done) | (simp; omega)) _ | refine Below.alloc ?_ (by first | omega | (simp; done) | (simp; omega)) _)
    clear hb4 B3
    go_wp2_with fail
    go_at_call 8
    (with_reducible refine (better_bad _ _ _ _ _ _ _ _ _ (by rw [H3.out, Bool.and_false])).mono ?_)
    rintro e w5 ⟨rfl, hb5⟩
    obtain ⟨hc, hf⟩ := bcell hb5
    have a_0_5 : w5.cell? ⟨w.heap.size, 0, none⟩ = some (.int .i64 r) := by rw [hc _ _ z_a_4.out]; go_simp
    have a_1_5 : w5.cell? ⟨w.heap.size, 1, none⟩ = some (.int .i64 c) := by rw [hc _ _ z_a_4.out]; go_simp
    have a_2_5 : w5.cell? ⟨w.heap.size, 2, none⟩ = some (.int .i64 b) := by rw [hc _ _ z_a_4.out]; go_simp
    have a_3_5 : w5.cell? ⟨w.heap.size, 3, none⟩ = some (.int .i64 p) := by rw [hc _ _ z_a_4.out]; go_simp
    have b_0_5 : w5.cell? ⟨w.heap.size + 1, 0, none⟩ = some (.int .i64 r) := by rw [hc _ _ z_b_4.out]; go_simp
    have b_1_5 : w5.cell? ⟨w.heap.size + 1, 1, none⟩ = some (.int .i64 c) := by rw [hc _ _ z_b_4.out]; go_simp
    have b_2_5 : w5.cell? ⟨w.heap.size + 1, 2, none⟩ = some (.int .i64 b) := by rw [hc _ _ z_b_4.out]; go_simp
    have b_3_5 : w5.cell? ⟨w.heap.size + 1, 3, none⟩ = some (.int .i64 p) := by rw [hc _ _ z_b_4.out]; go_simp
    have c_0_5 : w5.cell? ⟨w.heap.size + 1 + 1, 0, none⟩ = some (.int .i64 r3) := by rw [hc _ _ z_c_4.out]; go_simp
    have c_1_5 : w5.cell? ⟨w.heap.size + 1 + 1, 1, none⟩ = some (.int .i64 c3) := by rw [hc _ _ z_c_4.out]; go_simp
    have c_2_5 : w5.cell? ⟨w.heap.size + 1 + 1, 2, none⟩ = some (.int .i64 b3) := by rw [hc _ _ z_c_4.out]; go_simp
    have c_3_5 : w5.cell? ⟨w.heap.size + 1 + 1, 3, none⟩ = some (.int .i64 p3) := by rw [hc _ _ z_c_4.out]; go_simp
    clear hc hf a_0_4 a_1_4 a_2_4 a_3_4 b_0_4 b_1_4 b_2_4 b_3_4 c_0_4 c_1_4 c_2_4 c_3_4
    have z_a_5 : Hid (w.heap.size < w5.heap.size) := Lib.hid (by have h1 := z_a_4.out; have h2 := hb5.size; first | (with_reducible exact Nat.lt_of_lt_of_le h1 h2) | omega | (simp at h2; omega))
    clear z_a_4
    have z_b_5 : Hid (w.heap.size + 1 < w5.heap.size) := Lib.hid (by have h1 := z_b_4.out; have h2 := hb5.size; first | (with_reducible exact Nat.lt_of_lt_of_le h1 h2) | omega | (simp at h2; omega))
    clear z_b_4
    have z_c_5 : Hid (w.heap.size + 1 + 1 < w5.heap.size) := Lib.hid (by have h1 := z_c_4.out; have h2 := hb5.size; first | (with_reducible exact Nat.lt_of_lt_of_le h1 h2) | omega | (simp at h2; omega))
    clear z_c_4
    have B5 : Below w.heap.size w w5 := by
      refine Below.trans ?_ (hb5.mono (by first | with_reducible exact B4.size | (have := B4.size; simp; omega)))
      repeat (first | with_reducible assumption | with_reducible exact Below.refl _ _ | apply Below.drew | refine Below.setCell ?_ (by first | omega | (simp; done) | (simp; omega)) _ | refine Below.alloc ?_ (by first | omega | (simp; done) | (simp; omega)) _)
    clear hb5 B4
    go_wp2_with fail
    go_ret
    exact ⟨rfl, B5⟩
  · go_wp2_with fail
    go_at_call 8
    (with_reducible refine (better_good _ _ _ _ _ _ _ _ _ H2.out H3.out).mono ?_)
    rintro e w4 ⟨rfl, hb4⟩
    obtain ⟨hc, hf⟩ := bcell hb4
    have a_0_4 : w4.cell? ⟨w.heap.size, 0, none⟩ = some (.int .i64 r) := by rw [hc _ _ z_a_3.out]; go_simp
    have a_1_4 : w4.cell? ⟨w.heap.size, 1, none⟩ = some (.int .i64 c) := by rw [hc _ _ z_a_3.out]; go_simp
    have a_2_4 : w4.cell? ⟨w.heap.size, 2, none⟩ = some (.int .i64 b) := by rw [hc _ _ z_a_3.out]; go_simp
    have a_3_4 : w4.cell? ⟨w.heap.size, 3, none⟩ = some (.int .i64 p) := by rw [hc _ _ z_a_3.out]; go_simp
    have b_0_4 : w4.cell? ⟨w.heap.size + 1, 0, none⟩ = some (.int .i64 r) := by rw [hc _ _ z_b_3.out]; go_simp
    have b_1_4 : w4.cell? ⟨w.heap.size + 1, 1, none⟩ = some (.int .i64 c) := by rw [hc _ _ z_b_3.out]; go_simp
    have b_2_4 : w4.cell? ⟨w.heap.size + 1, 2, none⟩ = some (.int .i64 b) := by rw [hc _ _ z_b_3.out]; go_simp
    have b_3_4 : w4.cell? ⟨w.heap.size + 1, 3, none⟩ = some (.int .i64 p) := by rw [hc _ _ z_b_3.out]; go_simp
    have c_0_4 : w4.cell? ⟨w.heap.size + 1 + 1, 0, none⟩ = some (.int .i64 r3) := by rw [hc _ _ z_c_3.out]; go_simp
    have c_1_4 : w4.cell? ⟨w.heap.size + 1 + 1, 1, none⟩ = some (.int .i64 c3) := by rw [hc _ _ z_c_3.out]; go_simp
    have c_2_4 : w4.cell? ⟨w.heap.size + 1 + 1, 2, none⟩ = some (.int .i64 b3) := by rw [hc _ _ z_c_3.out]; go_simp
    have c_3_4 : w4.cell? ⟨w.heap.size + 1 + 1, 3, none⟩ = some (.int .i64 p3) := by rw [hc _ _ z_c_3.out]; go_simp
    clear hc hf a_0_3 a_1_3 a_2_3 a_3_3 b_0_3 b_1_3 b_2_3 b_3_3 c_0_3 c_1_3 c_2_3 c_3_3
    have z_a_4 : Hid (w.heap.size < w4.heap.size) := Lib.hid (by have h1 := z_a_3.out; have h2 := hb4.size; first | (with_reducible exact Nat.lt_of_lt_of_le h1 h2) | omega | (simp at h2; omega))
    clear z_a_3
    have z_b_4 : Hid (w.heap.size + 1 < w4.heap.size) := Lib.hid (by have h1 := z_b_3.out; have h2 := hb4.size; first | (with_reducible exact Nat.lt_of_lt_of_le h1 h2) | omega | (simp at h2; omega))
    clear z_b_3
    have z_c_4 : Hid (w.heap.size + 1 + 1 < w4.heap.size) := Lib.hid (by have h1 := z_c_3.out; have h2 := hb4.size; first | (with_reducible exact Nat.lt_of_lt_of_le h1 h2) | omega | (simp at h2; omega))
    clear z_c_3
    have B4 : Below w.heap.size w w4 := by
      refine Below.trans ?_ (hb4.mono (by first | with_reducible exact B3.size | (have := B3.size; simp; omega)))
      repeat (first | with_reducible assumption | with_reducible exact Below.refl _ _ | apply Below.drew | refine Below.setCell ?_ (by first | omega | (simp; done) | (simp; omega)) _ | refine Below.alloc ?_ (by first | omega | (simp; done) | (simp; omega)) _)
    clear hb4 B3
    rw [Hbc.out]
    go_wp2_with fail
    go_at_call 8
    (with_reducible refine (better_good _ _ _ _ _ _ _ _ _ H.out H3.out).mono ?_)
    rintro e w5 ⟨rfl, hb5⟩
    obtain ⟨hc, hf⟩ := bcell hb5
    have a_0_5 : w5.cell? ⟨w.heap.size, 0, none⟩ = some (.int .i64 r) := by rw [hc _ _ z_a_4.out]; go_simp
    have a_1_5 : w5.cell? ⟨w.heap.size, 1, none⟩ = some (.int .i64 c) := by rw [hc _ _ z_a_4.out]; go_simp
    have a_2_5 : w5.cell? ⟨w.heap.size, 2, none⟩ = some (.int .i64 b) := by rw [hc _ _ z_a_4.out]; go_simp
    have a_3_5 : w5.cell? ⟨w.heap.size, 3, none⟩ = some (.int .i64 p) := by rw [hc _ _ z_a_4.out]; go_simp
    have b_0_5 : w5.cell? ⟨w.heap.size + 1, 0, none⟩ = some (.int .i64 r) := by rw [hc _ _ z_b_4.out]; go_simp
    have b_1_5 : w5.cell? ⟨w.heap.size + 1, 1, none⟩ = some (.int .i64 c) := by rw [hc _ _ z_b_4.out]; go_simp
    have b_2_5 : w5.cell? ⟨w.heap.size + 1, 2, none⟩ = some (.int .i64 b) := by rw [hc _ _ z_b_4.out]; go_simp
    have b_3_5 : w5.cell? ⟨w.heap.size + 1, 3, none⟩ = some (.int .i64 p) := by rw [hc _ _ z_b_4.out]; go_simp
    have c_0_5 : w5.cell? ⟨w.heap.size + 1 + 1, 0, none⟩ = some (.int .i64 r3) := by rw [hc _ _ z_c_4.out]; go_simp
    have c_1_5 : w5.cell? ⟨w.heap.size + 1 + 1, 1, none⟩ = some (.int .i64 c3) := by rw [hc _ _ z_c_4.out]; go_simp
    have c_2_5 : w5.cell? ⟨w.heap.size + 1 + 1, 2, none⟩ = some (.int .i64 b3) := by rw [hc _ _ z_c_4.out]; go_simp
    have c_3_5 : w5.cell? ⟨w.heap.size + 1 + 1, 3, none⟩ = some (.int .i64 p3) := by rw [hc _ _ z_c_4.out]; go_simp
    clear hc hf a_0_4 a_1_4 a_2_4 a_3_4 b_0_4 b_1_4 b_2_4 b_3_4 c_0_4 c_1_4 c_2_4 c_3_4
    have z_a_5 : Hid (w.heap.size < w5.heap.size) := Lib.hid (by have h1 := z_a_4.out; have h2 := hb5.size; first | (with_reducible exact Nat.lt_of_lt_of_le h1 h2) | omega | (simp at h2; omega))
    clear z_a_4
    have z_b_5 : Hid (w.heap.size + 1 < w5.heap.size) := Lib.hid (by have h1 := z_b_4.out; have h2 := hb5.size; first | (with_reducible exact Nat.lt_of_lt_of_le h1 h2) | omega | (simp at h2; omega))
    clear z_b_4
    have z_c_5 : Hid (w.heap.size + 1 + 1 < w5.heap.size) := Lib.hid (by have h1 := z_c_4.out; have h2 := hb5.size; first | (with_reducible exact Nat.lt_of_lt_of_le h1 h2) | omega | (simp at h2; omega))
    clear z_c_4
    have B5 : Below w.heap.size w w5 := by
      refine Below.trans ?_ (hb5.mono (by first | with_reducible exact B4.size | (have := B4.size; simp; omega)))
      repeat (first | with_reducible assumption | with_reducible exact Below.refl _ _ | apply Below.drew | refine Below.setCell ?_ (by first | omega | (simp; done) | (simp; omega)) _ | refine Below.alloc ?_ (by first | omega | (simp; done) | (simp; omega)) _)
    clear hb5 B4
    rw [Hac.out]
    go_wp2_with fail
    go_ret
    exact ⟨rfl, B5⟩

set_option maxHeartbeats 4000000 in
theorem order_apart0 (r c b p r2 c2 b2 p2 r3 c3 b3 p3 : Int) (w : World) (x ab bc ac : Bool) (h : okV r c b p = true) (h2 : okV r2 c2 b2 p2 = true) (h3 : okV r3 c3 b3 p3 = x) (hd : (r == r2) = false) (hab : betB r c b p r2 c2 b2 p2 = ab) (hba : betB r2 c2 b2 p2 r c b p = !ab) (hbc : betB r2 c2 b2 p2 r3 c3 b3 p3 = bc) (hac : betB r c b p r3 c3 b3 p3 = ac) (ht : (ab && bc) = true → ac = true) :
    Calls Try.prog 4 #[vv r c b p, vv r2 c2 b2 p2, vv r3 c3 b3 p3] w fun e w' => e = .returned (.bool true) ∧ Below w.heap.size w w' := by
  have H := Lib.hid h
  have H2 := Lib.hid h2
  have H3 := Lib.hid h3
  have Hab := Lib.hid hab
  have Hba := Lib.hid hba
  have Hbc := Lib.hid hbc
  have Hac := Lib.hid hac
  have Ht := Lib.hid ht
  have Hd := Lib.hid hd
  clear h h2 h3 hab hba hbc hac ht hd
  go_enter Try.func4, Try.ntmps4
  go_wp2_with fail
  go_at_call 8
  (with_reducible refine (better_good _ _ _ _ _ _ _ _ _ H.out H2.out).mono ?_)
  rintro e w1 ⟨rfl, hb1⟩
  obtain ⟨hc, hf⟩ := bcell hb1
  have a_0_1 : w1.cell? ⟨w.heap.size, 0, none⟩ = some (.int .i64 r) := by rw [hc _ _ (by first | with_reducible assumption | omega | (simp; done) | (simp; omega))]; go_simp
  have a_1_1 : w1.cell? ⟨w.heap.size, 1, none⟩ = some (.int .i64 c) := by rw [hc _ _ (by first | with_reducible assumption | omega | (simp; done) | (simp; omega))]; go_simp
  have a_2_1 : w1.cell? ⟨w.heap.size, 2, none⟩ = some (.int .i64 b) := by rw [hc _ _ (by first | with_reducible assumption | omega | (simp; done) | (simp; omega))]; go_simp
  have a_3_1 : w1.cell? ⟨w.heap.size, 3, none⟩ = some (.int .i64 p) := by rw [hc _ _ (by first | with_reducible assumption | omega | (simp; done) | (simp; omega))]; go_simp
  have b_0_1 : w1.cell? ⟨w.heap.size + 1, 0, none⟩ = some (.int .i64 r2) := by rw [hc _ _ (by first | with_reducible assumption | omega | (simp; done) | (simp; omega))]; go_simp
  have b_1_1 : w1.cell? ⟨w.heap.size + 1, 1, none⟩ = some (.int .i64 c2) := by rw [hc _ _ (by first | with_reducible assumption | omega | (simp; done) | (simp; omega))]; go_simp
  have b_2_1 : w1.cell? ⟨w.heap.size + 1, 2, none⟩ = some (.int .i64 b2) := by rw [hc _ _ (by first | with_reducible assumption | omega | (simp; done) | (simp; omega))]; go_simp
  have b_3_1 : w1.cell? ⟨w.heap.size + 1, 3, none⟩ = some (.int .i64 p2) := by rw [hc _ _ (by first | with_reducible assumption | omega | (simp; done) | (simp; omega))]; go_simp
  have c_0_1 : w1.cell? ⟨w.heap.size + 1 + 1, 0, none⟩ = some (.int .i64 r3) := by rw [hc _ _ (by first | with_reducible assumption | omega | (simp; done) | (simp; omega))]; go_simp
  have c_1_1 : w1.cell? ⟨w.heap.size + 1 + 1, 1, none⟩ = some (.int .i64 c3) := by rw [hc _ _ (by first | with_reducible assumption | omega | (simp; done) | (simp; omega))]; go_simp
  have c_2_1 : w1.cell? ⟨w.heap.size + 1 + 1, 2, none⟩ = some (.int .i64 b3) := by rw [hc _ _ (by first | with_reducible assumption | omega | (simp; done) | (simp; omega))]; go_simp
  have c_3_1 : w1.cell? ⟨w.heap.size + 1 + 1, 3, none⟩ = some (.int .i64 p3) := by rw [hc _ _ (by first | with_reducible assumption | omega | (simp; done) | (simp; omega))]; go_simp
  clear hc hf
  have z_a_1 : Hid (w.heap.size < w1.heap.size) := Lib.hid (by have h2 := hb1.size; first | omega | (simp at h2; omega))
  have z_b_1 : Hid (w.heap.size + 1 < w1.heap.size) := Lib.hid (by have h2 := hb1.size; first | omega | (simp at h2; omega))
  have z_c_1 : Hid (w.heap.size + 1 + 1 < w1.heap.size) := Lib.hid (by have h2 := hb1.size; first | omega | (simp at h2; omega))
  have B1 : Below w.heap.size w w1 := by
    refine Below.trans ?_ (hb1.mono (by first | with_reducible exact Nat.le_refl _ | (simp; done) | (simp; omega)))
    repeat (first | with_reducible assumption | with_reducible exact Below.refl _ _ | apply Below.drew | refine Below.setCell ?_ (by first | omega | (simp; done) | (simp; omega)) _ | refine Below.alloc ?_ (by first | omega | (simp; done) | (simp; omega)) _)
  clear hb1
  rw [Hab.out]
  go_wp2_with fail
  go_at_call 8
  (with_reducible refine (better_good _ _ _ _ _ _ _ _ _ H2.out H.out).mono ?_)
  rintro e w2 ⟨rfl, hb2⟩
  obtain ⟨hc, hf⟩ := bcell hb2
  have a_0_2 : w2.cell? ⟨w.heap.size, 0, none⟩ = some (.int .i64 r) := by rw [hc _ _ z_a_1.out]; go_simp
  have a_1_2 : w2.cell? ⟨w.heap.size, 1, none⟩ = some (.int .i64 c) := by rw [hc _ _ z_a_1.out]; go_simp
  have a_2_2 : w2.cell? ⟨w.heap.size, 2, none⟩ = some (.int .i64 b) := by rw [hc _ _ z_a_1.out]; go_simp
  have a_3_2 : w2.cell? ⟨w.heap.size, 3, none⟩ = some (.int .i64 p) := by rw [hc _ _ z_a_1.out]; go_simp
  have b_0_2 : w2.cell? ⟨w.heap.size + 1, 0, none⟩ = some (.int .i64 r2) := by rw [hc _ _ z_b_1.out]; go_simp
  have b_1_2 : w2.cell? ⟨w.heap.size + 1, 1, none⟩ = some (.int .i64 c2) := by rw [hc _ _ z_b_1.out]; go_simp
  have b_2_2 : w2.cell? ⟨w.heap.size + 1, 2, none⟩ = some (.int .i64 b2) := by rw [hc _ _ z_b_1.out]; go_simp
  have b_3_2 : w2.cell? ⟨w.heap.size + 1, 3, none⟩ = some (.int .i64 p2) := by rw [hc _ _ z_b_1.out]; go_simp
  have c_0_2 : w2.cell? ⟨w.heap.size + 1 + 1, 0, none⟩ = some (.int .i64 r3) := by rw [hc _ _ z_c_1.out]; go_simp
  have c_1_2 : w2.cell? ⟨w.heap.size + 1 + 1, 1, none⟩ = some (.int .i64 c3) := by rw [hc _ _ z_c_1.out]; go_simp
  have c_2_2 : w2.cell? ⟨w.heap.size + 1 + 1, 2, none⟩ = some (.int .i64 b3) := by rw [hc _ _ z_c_1.out]; go_simp
  have c_3_2 : w2.cell? ⟨w.heap.size + 1 + 1, 3, none⟩ = some (.int .i64 p3) := by rw [hc _ _ z_c_1.out]; go_simp
  clear hc hf a_0_1 a_1_1 a_2_1 a_3_1 b_0_1 b_1_1 b_2_1 b_3_1 c_0_1 c_1_1 c_2_1 c_3_1
  have z_a_2 : Hid (w.heap.size < w2.heap.size) := Lib.hid (by have h1 := z_a_1.out; have h2 := hb2.size; first | (with_reducible exact Nat.lt_of_lt_of_le h1 h2) | omega | (simp at h2; omega))
  clear z_a_1
  have z_b_2 : Hid (w.heap.size + 1 < w2.heap.size) := Lib.hid (by have h1 := z_b_1.out; have h2 := hb2.size; first | (with_reducible exact Nat.lt_of_lt_of_le h1 h2) | omega | (simp at h2; omega))
  clear z_b_1
  have z_c_2 : Hid (w.heap.size + 1 + 1 < w2.heap.size) := Lib.hid (by have h1 := z_c_1.out; have h2 := hb2.size; first | (with_reducible exact Nat.lt_of_lt_of_le h1 h2) | omega | (simp at h2; omega))
  clear z_c_1
  have B2 : Below w.heap.size w w2 := by
    refine Below.trans ?_ (hb2.mono (by first | with_reducible exact B1.size | (have := B1.size; simp; omega)))
    repeat (first | with_reducible assumption | with_reducible exact Below.refl _ _ | apply Below.drew | refine Below.setCell ?_ (by first | omega | (simp; done) | (simp; omega)) _ | refine Below.alloc ?_ (by first | omega | (simp; done) | (simp; omega)) _)
  clear hb2 B1
  rw [Hba.out]
  cases ab
  · have Hd' := Hd.out
    go_wp2_with fail
    go_at_call 14
    (with_reducible refine (alive_any _).mono ?_)
    rintro e w3 ⟨rfl, hb3⟩
    obtain ⟨hc, hf⟩ := bcell hb3
    have a_0_3 : w3.cell? ⟨w.heap.size, 0, none⟩ = some (.int .i64 r) := by rw [hc _ _ z_a_2.out]; go_simp
    have a_1_3 : w3.cell? ⟨w.heap.size, 1, none⟩ = some (.int .i64 c) := by rw [hc _ _ z_a_2.out]; go_simp
    have a_2_3 : w3.cell? ⟨w.heap.size, 2, none⟩ = some (.int .i64 b) := by rw [hc _ _ z_a_2.out]; go_simp
    have a_3_3 : w3.cell? ⟨w.heap.size, 3, none⟩ = some (.int .i64 p) := by rw [hc _ _ z_a_2.out]; go_simp
    have b_0_3 : w3.cell? ⟨w.heap.size + 1, 0, none⟩ = some (.int .i64 r2) := by rw [hc _ _ z_b_2.out]; go_simp
    have b_1_3 : w3.cell? ⟨w.heap.size + 1, 1, none⟩ = some (.int .i64 c2) := by rw [hc _ _ z_b_2.out]; go_simp
    have b_2_3 : w3.cell? ⟨w.heap.size + 1, 2, none⟩ = some (.int .i64 b2) := by rw [hc _ _ z_b_2.out]; go_simp
    have b_3_3 : w3.cell? ⟨w.heap.size + 1, 3, none⟩ = some (.int .i64 p2) := by rw [hc _ _ z_b_2.out]; go_simp
    have c_0_3 : w3.cell? ⟨w.heap.size + 1 + 1, 0, none⟩ = some (.int .i64 r3) := by rw [hc _ _ z_c_2.out]; go_simp
    have c_1_3 : w3.cell? ⟨w.heap.size + 1 + 1, 1, none⟩ = some (.int .i64 c3) := by rw [hc _ _ z_c_2.out]; go_simp
    have c_2_3 : w3.cell? ⟨w.heap.size + 1 + 1, 2, none⟩ = some (.int .i64 b3) := by rw [hc _ _ z_c_2.out]; go_simp
    have c_3_3 : w3.cell? ⟨w.heap.size + 1 + 1, 3, none⟩ = some (.int .i64 p3) := by rw [hc _ _ z_c_2.out]; go_simp
    clear hc hf a_0_2 a_1_2 a_2_2 a_3_2 b_0_2 b_1_2 b_2_2 b_3_2 c_0_2 c_1_2 c_2_2 c_3_2
    have z_a_3 : Hid (w.heap.size < w3.heap.size) := Lib.hid (by have h1 := z_a_2.out; have h2 := hb3.size; first | (with_reducible exact Nat.lt_of_lt_of_le h1 h2) | omega | (simp at h2; omega))
    clear z_a_2
    have z_b_3 : Hid (w.heap.size + 1 < w3.heap.size) := Lib.hid (by have h1 := z_b_2.out; have h2 := hb3.size; first | (with_reducible exact Nat.lt_of_lt_of_le h1 h2) | omega | (simp at h2; omega))
    clear z_b_2
    have z_c_3 : Hid (w.heap.size + 1 + 1 < w3.heap.size) := Lib.hid (by have h1 := z_c_2.out; have h2 := hb3.size; first | (with_reducible exact Nat.lt_of_lt_of_le h1 h2) | omega | (simp at h2; omega))
    clear z_c_2
    have B3 : Below w.heap.size w w3 := by
      refine Below.trans ?_ (hb3.mono (by first | with_reducible exact B2.size | (have := B2.size; simp; omega)))
      repeat (first | with_reducible assumption | with_reducible exact Below.refl _ _ | apply Below.drew | refine Below.setCell ?_ (by first | omega | (simp; done) | (simp; omega)) _ | refine Below.alloc ?_ (by first | omega | (simp; done) | (simp; omega)) _)
    clear hb3 B2
    cases x
    · go_wp2_with fail
      go_at_call 8
      (with_reducible refine (better_bad _ _ _ _ _ _ _ _ _ (by rw [H3.out, Bool.and_false])).mono ?_)
      rintro e w4 ⟨rfl, hb4⟩
      obtain ⟨hc, hf⟩ := bcell hb4
      have a_0_4 : w4.cell? ⟨w.heap.size, 0, none⟩ = some (.int .i64 r) := by rw [hc _ _ z_a_3.out]; go_simp
      have a_1_4 : w4.cell? ⟨w.heap.size, 1, none⟩ = some (.int .i64 c) := by rw [hc _ _ z_a_3.out]; go_simp
      have a_2_4 : w4.cell? ⟨w.heap.size, 2, none⟩ = some (.int .i64 b) := by rw [hc _ _ z_a_3.out]; go_simp
      have a_3_4 : w4.cell? ⟨w.heap.size, 3, none⟩ = some (.int .i64 p) := by rw [hc _ _ z_a_3.out]; go_simp
      have b_0_4 : w4.cell? ⟨w.heap.size + 1, 0, none⟩ = some (.int .i64 r2) := by rw [hc _ _ z_b_3.out]; go_simp
      have b_1_4 : w4.cell? ⟨w.heap.size + 1, 1, none⟩ = some (.int .i64 c2) := by rw [hc _ _ z_b_3.out]; go_simp
      have b_2_4 : w4.cell? ⟨w.heap.size + 1, 2, none⟩ = some (.int .i64 b2) := by rw [hc _ _ z_b_3.out]; go_simp
      have b_3_4 : w4.cell? ⟨w.heap.size + 1, 3, none⟩ = some (.int .i64 p2) := by rw [hc _ _ z_b_3.out]; go_simp
      have c_0_4 : w4.cell? ⟨w.heap.size + 1 + 1, 0, none⟩ = some (.int .i64 r3) := by rw [hc _ _ z_c_3.out]; go_simp
      have c_1_4 : w4.cell? ⟨w.heap.size + 1 + 1, 1, none⟩ = some (.int .i64 c3) := by rw [hc _ _ z_c_3.out]; go_simp
      have c_2_4 : w4.cell? ⟨w.heap.size + 1 + 1, 2, none⟩ = some (.int .i64 b3) := by rw [hc _ _ z_c_3.out]; go_simp
      have c_3_4 : w4.cell? ⟨w.heap.size + 1 + 1, 3, none⟩ = some (.int .i64 p3) := by rw [hc _ _ z_c_3.out]; go_simp
      clear hc hf a_0_3 a_1_3 a_2_3 a_3_3 b_0_3 b_1_3 b_2_3 b_3_3 c_0_3 c_1_3 c_2_3 c_3_3
      have z_a_4 : Hid (w.heap.size < w4.heap.size) := Lib.hid (by have h1 := z_a_3.out; have h2 := hb4.size; first | (with_reducible exact Nat.lt_of_lt_of_le h1 h2) | omega | (simp at h2; omega))
      clear z_a_3
      have z_b_4 : Hid (w.heap.size + 1 < w4.heap.size) := Lib.hid (by have h1 := z_b_3.out; have h2 := hb4.size; first | (with_reducible exact Nat.lt_of_lt_of_le h1 h2) | omega | (simp at h2; omega))
      clear z_b_3
      have z_c_4 : Hid (w.heap.size + 1 + 1 < w4.heap.size) := Lib.hid (by have h1 := z_c_3.out; have h2 := hb4.size; first | (with_reducible exact Nat.lt_of_lt_of_le h1 h2) | omega | (simp at h2; omega))
      clear z_c_3
      have B4 : Below w.heap.size w w4 := by
        refine Below.trans ?_ (hb4.mono (by first | with_reducible exact B3.size | (have := B3.size; simp; omega)))
        repeat (first | with_reducible assumption | with_reducible exact Below.refl _ _ | apply Below.drew | refine Below.setCell ?_ (by first | omega | (simp; done) | (simp; omega)) _ | refine Below.alloc ?_ (by first | omega | (simp; done) | (simp; omega)) _)
      clear hb4 B3
      go_wp2_with fail
      go_at_call 8
      (with_reducible refine (better_bad _ _ _ _ _ _ _ _ _ (by rw [H3.out, Bool.and_false])).mono ?_)
      rintro e w5 ⟨rfl, hb5⟩
      obtain ⟨hc, hf⟩ := bcell hb5
      have a_0_5 : w5.cell? ⟨w.heap.size, 0, none⟩ = some (.int .i64 r) := by rw [hc _ _ z_a_4.out]; go_simp
      have a_1_5 : w5.cell? ⟨w.heap.size, 1, none⟩ = some (.int .i64 c) := by rw [hc _ _ z_a_4.out]; go_simp
      have a_2_5 : w5.cell? ⟨w.heap.size, 2, none⟩ = some (.int .i64 b) := by rw [hc _ _ z_a_4.out]; go_simp
      have a_3_5 : w5.cell? ⟨w.heap.size, 3, none⟩ = some (.int .i64 p) := by rw [hc _ _ z_a_4.out]; go_simp
      have b_0_5 : w5.cell? ⟨w.heap.size + 1, 0, none⟩ = some (.int .i64 r2) := by rw [hc _ _ z_b_4.out]; go_simp
      have b_1_5 : w5.cell? ⟨w.heap.size + 1, 1, none⟩ = some (.int .i64 c2) := by rw [hc _ _ z_b_4.out]; go_simp
      have b_2_5 : w5.cell? ⟨w.heap.size + 1, 2, none⟩ = some (.int .i64 b2) := by rw [hc _ _ z_b_4.out]; go_simp
      have b_3_5 : w5.cell? ⟨w.heap.size + 1, 3, none⟩ = some (.int .i64 p2) := by rw [hc _ _ z_b_4.out]; go_simp
      have c_0_5 : w5.cell? ⟨w.heap.size + 1 + 1, 0, none⟩ = some (.int .i64 r3) := by rw [hc _ _ z_c_4.out]; go_simp
      have c_1_5 : w5.cell? ⟨w.heap.size + 1 + 1, 1, none⟩ = some (.int .i64 c3) := by rw [hc _ _ z_c_4.out]; go_simp
      have c_2_5 : w5.cell? ⟨w.heap.size + 1 + 1, 2, none⟩ = some (.int .i64 b3) := by rw [hc _ _ z_c_4.out]; go_simp
      have c_3_5 : w5.cell? ⟨w.heap.size + 1 + 1, 3, none⟩ = some (.int .i64 p3) := by rw [hc _ _ z_c_4.out]; go_simp
      clear hc hf a_0_4 a_1_4 a_2_4 a_3_4 b_0_4 b_1_4 b_2_4 b_3_4 c_0_4 c_1_4 c_2_4 c_3_4
      have z_a_5 : Hid (w.heap.size < w5.heap.size) := Lib.hid (by have h1 := z_a_4.out; have h2 := hb5.size; first | (with_reducible exact Nat.lt_of_lt_of_le h1 h2) | omega | (simp at h2; omega))
      clear z_a_4
      have z_b_5 : Hid (w.heap.size + 1 < w5.heap.size) := Lib.hid (by have h1 := z_b_4.out; have h2 := hb5.size; first | (with_reducible exact Nat.lt_of_lt_of_le h1 h2) | omega | (simp at h2; omega))
      clear z_b_4
      have z_c_5 : Hid (w.heap.size + 1 + 1 < w5.heap.size) := Lib.hid (by have h1 := z_c_4.out; have h2 := hb5.size; first | (with_reducible exact Nat.lt_of_lt_of_le h1 h2) | omega | (simp at h2; omega))
      clear z_c_4
      have B5 : Below w.heap.size w w5 := by
        refine Below.trans ?_ (hb5.mono (by first | with_reducible exact B4.size | (have := B4.size; simp; omega)))
        repeat (first | with_reducible assumption | with_reducible exact Below.refl _ _ | apply Below.drew | refine Below.setCell ?_ (by first | omega | (simp; done) | (simp; omega)) _ | refine Below.alloc ?_ (by first | omega | (simp; done) | (simp; omega)) _)
      clear hb5 B4
      go_wp2_with fail
      go_ret
      exact ⟨rfl, B5⟩
    · go_wp2_with fail
      go_at_call 8
      (with_reducible refine (better_good _ _ _ _ _ _ _ _ _ H2.out H3.out).mono ?_)
      rintro e w4 ⟨rfl, hb4⟩
      obtain ⟨hc, hf⟩ := bcell hb4
      have a_0_4 : w4.cell? ⟨w.heap.size, 0, none⟩ = some (.int .i64 r) := by rw [hc _ _ z_a_3.out]; go_simp
      have a_1_4 : w4.cell? ⟨w.heap.size, 1, none⟩ = some (.int .i64 c) := by rw [hc _ _ z_a_3.out]; go_simp
      have a_2_4 : w4.cell? ⟨w.heap.size, 2, none⟩ = some (.int .i64 b) := by rw [hc _ _ z_a_3.out]; go_simp
      have a_3_4 : w4.cell? ⟨w.heap.size, 3, none⟩ = some (.int .i64 p) := by rw [hc _ _ z_a_3.out]; go_simp
      have b_0_4 : w4.cell? ⟨w.heap.size + 1, 0, none⟩ = some (.int .i64 r2) := by rw [hc _ _ z_b_3.out]; go_simp
      have b_1_4 : w4.cell? ⟨w.heap.size + 1, 1, none⟩ = some (.int .i64 c2) := by rw [hc _ _ z_b_3.out]; go_simp
      have b_2_4 : w4.cell? ⟨w.heap.size + 1, 2, none⟩ = some (.int .i64 b2) := by rw [hc _ _ z_b_3.out]; go_simp
      have b_3_4 : w4.cell? ⟨w.heap.size + 1, 3, none⟩ = some (.int .i64 p2) := by rw [hc _ _ z_b_3.out]; go_simp
      have c_0_4 : w4.cell? ⟨w.heap.size + 1 + 1, 0, none⟩ = some (.int .i64 r3) := by rw [hc _ _ z_c_3.out]; go_simp
      have c_1_4 : w4.cell? ⟨w.heap.size + 1 + 1, 1, none⟩ = some (.int .i64 c3) := by rw [hc _ _ z_c_3.out]; go_simp
      have c_2_4 : w4.cell? ⟨w.heap.size + 1 + 1, 2, none⟩ = some (.int .i64 b3) := by rw [hc _ _ z_c_3.out]; go_simp
      have c_3_4 : w4.cell? ⟨w.heap.size + 1 + 1, 3, none⟩ = some (.int .i64 p3) := by rw [hc _ _ z_c_3.out]; go_simp
      clear hc hf a_0_3 a_1_3 a_2_3 a_3_3 b_0_3 b_1_3 b_2_3 b_3_3 c_0_3 c_1_3 c_2_3 c_3_3
      have z_a_4 : Hid (w.heap.size < w4.heap.size) := Lib.hid (by have h1 := z_a_3.out; have h2 := hb4.size; first | (with_reducible exact Nat.lt_of_lt_of_le h1 h2) | omega | (simp at h2; omega))
      clear z_a_3
      have z_b_4 : Hid (w.heap.size + 1 < w4.heap.size) := Lib.hid (by have h1 := z_b_3.out; have h2 := hb4.size; first | (with_reducible exact Nat.lt_of_lt_of_le h1 h2) | omega | (simp at h2; omega))
      clear z_b_3
      have z_c_4 : Hid (w.heap.size + 1 + 1 < w4.heap.size) := Lib.hid (by have h1 := z_c_3.out; have h2 := hb4.size; first | (with_reducible exact Nat.lt_of_lt_of_le h1 h2) | omega | (simp at h2; omega))
      clear z_c_3
      have B4 : Below w.heap.size w w4 := by
        refine Below.trans ?_ (hb4.mono (by first | with_reducible exact B3.size | (have := B3.size; simp; omega)))
        repeat (first | with_reducible assumption | with_reducible exact Below.refl _ _ | apply Below.drew | refine Below.setCell ?_ (by first | omega | (simp; done) | (simp; omega)) _ | refine Below.alloc ?_ (by first | omega | (simp; done) | (simp; omega)) _)
      clear hb4 B3
      rw [Hbc.out]
      go_wp2_with fail
      go_at_call 8
      (with_reducible refine (better_good _ _ _ _ _ _ _ _ _ H.out H3.out).mono ?_)
      rintro e w5 ⟨rfl, hb5⟩
      obtain ⟨hc, hf⟩ := bcell hb5
      have a_0_5 : w5.cell? ⟨w.heap.size, 0, none⟩ = some (.int .i64 r) := by rw [hc _ _ z_a_4.out]; go_simp
      have a_1_5 : w5.cell? ⟨w.heap.size, 1, none⟩ = some (.int .i64 c) := by rw [hc _ _ z_a_4.out]; go_simp
      have a_2_5 : w5.cell? ⟨w.heap.size, 2, none⟩ = some (.int .i64 b) := by rw [hc _ _ z_a_4.out]; go_simp
      have a_3_5 : w5.cell? ⟨w.heap.size, 3, none⟩ = some (.int .i64 p) := by rw [hc _ _ z_a_4.out]; go_simp
      have b_0_5 : w5.cell? ⟨w.heap.size + 1, 0, none⟩ = some (.int .i64 r2) := by rw [hc _ _ z_b_4.out]; go_simp
      have b_1_5 : w5.cell? ⟨w.heap.size + 1, 1, none⟩ = some (.int .i64 c2) := by rw [hc _ _ z_b_4.out]; go_simp
      have b_2_5 : w5.cell? ⟨w.heap.size + 1, 2, none⟩ = some (.int .i64 b2) := by rw [hc _ _ z_b_4.out]; go_simp
      have b_3_5 : w5.cell? ⟨w.heap.size + 1, 3, none⟩ = some (.int .i64 p2) := by rw [hc _ _ z_b_4.out]; go_simp
      have c_0_5 : w5.cell? ⟨w.heap.size + 1 + 1, 0, none⟩ = some (.int .i64 r3) := by rw [hc _ _ z_c_4.out]; go_simp
      have c_1_5 : w5.cell? ⟨w.heap.size + 1 + 1, 1, none⟩ = some (.int .i64 c3) := by rw [hc _ _ z_c_4.out]; go_simp
      have c_2_5 : w5.cell? ⟨w.heap.size + 1 + 1, 2, none⟩ = some (.int .i64 b3) := by rw [hc _ _ z_c_4.out]; go_simp
      have c_3_5 : w5.cell? ⟨w.heap.size + 1 + 1, 3, none⟩ = some (.int .i64 p3) := by rw [hc _ _ z_c_4.out]; go_simp
      clear hc hf a_0_4 a_1_4 a_2_4 a_3_4 b_0_4 b_1_4 b_2_4 b_3_4 c_0_4 c_1_4 c_2_4 c_3_4
      have z_a_5 : Hid (w.heap.size < w5.heap.size) := Lib.hid (by have h1 := z_a_4.out; have h2 := hb5.size; first | (with_reducible exact Nat.lt_of_lt_of_le h1 h2) | omega | (simp at h2; omega))
      clear z_a_4
      have z_b_5 : Hid (w.heap.size + 1 < w5.heap.size) := Lib.hid (by have h1 := z_b_4.out; have h2 := hb5.size; first | (with_reducible exact Nat.lt_of_lt_of_le h1 h2) | omega | (simp at h2; omega))
      clear z_b_4
      have z_c_5 : Hid (w.heap.size + 1 + 1 < w5.heap.size) := Lib.hid (by have h1 := z_c_4.out; have h2 := hb5.size; first | (with_reducible exact Nat.lt_of_lt_of_le h1 h2) | omega | (simp at h2; omega))
      clear z_c_4
      have B5 : Below w.heap.size w w5 := by
        refine Below.trans ?_ (hb5.mono (by first | with_reducible exact B4.size | (have := B4.size; simp; omega)))
        repeat (first | with_reducible assumption | with_reducible exact Below.refl _ _ | apply Below.drew | refine Below.setCell ?_ (by first | omega | (simp; done) | (simp; omega)) _ | refine Below.alloc ?_ (by first | omega | (simp; done) | (simp; omega)) _)
      clear hb5 B4
      rw [Hac.out]
      go_wp2_with fail
      go_ret
      exact ⟨rfl, B5⟩
  · have Hd' := Hd.out
    go_wp2_with fail
    go_at_call 14
    (with_reducible refine (alive_any _).mono ?_)
    rintro e w3 ⟨rfl, hb3⟩
    obtain ⟨hc, hf⟩ := bcell hb3
    have a_0_3 : w3.cell? ⟨w.heap.size, 0, none⟩ = some (.int .i64 r) := by rw [hc _ _ z_a_2.out]; go_simp
    have a_1_3 : w3.cell? ⟨w.heap.size, 1, none⟩ = some (.int .i64 c) := by rw [hc _ _ z_a_2.out]; go_simp
    have a_2_3 : w3.cell? ⟨w.heap.size, 2, none⟩ = some (.int .i64 b) := by rw [hc _ _ z_a_2.out]; go_simp
    have a_3_3 : w3.cell? ⟨w.heap.size, 3, none⟩ = some (.int .i64 p) := by rw [hc _ _ z_a_2.out]; go_simp
    have b_0_3 : w3.cell? ⟨w.heap.size + 1, 0, none⟩ = some (.int .i64 r2) := by rw [hc _ _ z_b_2.out]; go_simp
    have b_1_3 : w3.cell? ⟨w.heap.size + 1, 1, none⟩ = some (.int .i64 c2) := by rw [hc _ _ z_b_2.out]; go_simp
    have b_2_3 : w3.cell? ⟨w.heap.size + 1, 2, none⟩ = some (.int .i64 b2) := by rw [hc _ _ z_b_2.out]; go_simp
    have b_3_3 : w3.cell? ⟨w.heap.size + 1, 3, none⟩ = some (.int .i64 p2) := by rw [hc _ _ z_b_2.out]; go_simp
    have c_0_3 : w3.cell? ⟨w.heap.size + 1 + 1, 0, none⟩ = some (.int .i64 r3) := by rw [hc _ _ z_c_2.out]; go_simp
    have c_1_3 : w3.cell? ⟨w.heap.size + 1 + 1, 1, none⟩ = some (.int .i64 c3) := by rw [hc _ _ z_c_2.out]; go_simp
    have c_2_3 : w3.cell? ⟨w.heap.size + 1 + 1, 2, none⟩ = some (.int .i64 b3) := by rw [hc _ _ z_c_2.out]; go_simp
    have c_3_3 : w3.cell? ⟨w.heap.size + 1 + 1, 3, none⟩ = some (.int .i64 p3) := by rw [hc _ _ z_c_2.out]; go_simp
    clear hc hf a_0_2 a_1_2 a_2_2 a_3_2 b_0_2 b_1_2 b_2_2 b_3_2 c_0_2 c_1_2 c_2_2 c_3_2
    have z_a_3 : Hid (w.heap.size < w3.heap.size) := Lib.hid (by have h1 := z_a_2.out; have h2 := hb3.size; first | (with_reducible exact Nat.lt_of_lt_of_le h1 h2) | omega | (simp at h2; omega))
    clear z_a_2
    have z_b_3 : Hid (w.heap.size + 1 < w3.heap.size) := Lib.hid (by have h1 := z_b_2.out; have h2 := hb3.size; first | (with_reducible exact Nat.lt_of_lt_of_le h1 h2) | omega | (simp at h2; omega))
    clear z_b_2
    have z_c_3 : Hid (w.heap.size + 1 + 1 < w3.heap.size) := Lib.hid (by have h1 := z_c_2.out; have h2 := hb3.size; first | (with_reducible exact Nat.lt_of_lt_of_le h1 h2) | omega | (simp at h2; omega))
    clear z_c_2
    have B3 : Below w.heap.size w w3 := by
      refine Below.trans ?_ (hb3.mono (by first | with_reducible exact B2.size | (have := B2.size; simp; omega)))
      repeat (first | with_reducible assumption | with_reducible exact Below.refl _ _ | apply Below.drew | refine Below.setCell ?_ (by first | omega | (simp; done) | (simp; omega)) _ | refine Below.alloc ?_ (by first | omega | (simp; done) | (simp; omega)) _)
    clear hb3 B2
    cases x
    · go_wp2_with fail
      go_at_call 8
      (with_reducible refine (better_bad _ _ _ _ _ _ _ _ _ (by rw [H3.out, Bool.and_false])).mono ?_)
      rintro e w4 ⟨rfl, hb4⟩
      obtain ⟨hc, hf⟩ := bcell hb4
      have a_0_4 : w4.cell? ⟨w.heap.size, 0, none⟩ = some (.int .i64 r) := by rw [hc _ _ z_a_3.out]; go_simp
      have a_1_4 : w4.cell? ⟨w.heap.size, 1, none⟩ = some (.int .i64 c) := by rw [hc _ _ z_a_3.out]; go_simp
      have a_2_4 : w4.cell? ⟨w.heap.size, 2, none⟩ = some (.int .i64 b) := by rw [hc _ _ z_a_3.out]; go_simp
      have a_3_4 : w4.cell? ⟨w.heap.size, 3, none⟩ = some (.int .i64 p) := by rw [hc _ _ z_a_3.out]; go_simp
      have b_0_4 : w4.cell? ⟨w.heap.size + 1, 0, none⟩ = some (.int .i64 r2) := by rw [hc _ _ z_b_3.out]; go_simp
      have b_1_4 : w4.cell? ⟨w.heap.size + 1, 1, none⟩ = some (.int .i64 c2) := by rw [hc _ _ z_b_3.out]; go_simp
      have b_2_4 : w4.cell? ⟨w.heap.size + 1, 2, none⟩ = some (.int .i64 b2) := by rw [hc _ _ z_b_3.out]; go_simp
      have b_3_4 : w4.cell? ⟨w.heap.size + 1, 3, none⟩ = some (.int .i64 p2) := by rw [hc _ _ z_b_3.out]; go_simp
      have c_0_4 : w4.cell? ⟨w.heap.size + 1 + 1, 0, none⟩ = some (.int .i64 r3) := by rw [hc _ _ z_c_3.out]; go_simp
      have c_1_4 : w4.cell? ⟨w.heap.size + 1 + 1, 1, none⟩ = some (.int .i64 c3) := by rw [hc _ _ z_c_3.out]; go_simp
      have c_2_4 : w4.cell? ⟨w.heap.size + 1 + 1, 2, none⟩ = some (.int .i64 b3) := by rw [hc _ _ z_c_3.out]; go_simp
      have c_3_4 : w4.cell? ⟨w.heap.size + 1 + 1, 3, none⟩ = some (.int .i64 p3) := by rw [hc _ _ z_c_3.out]; go_simp
      clear hc hf a_0_3 a_1_3 a_2_3 a_3_3 b_0_3 b_1_3 b_2_3 b_3_3 c_0_3 c_1_3 c_2_3 c_3_3
      have z_a_4 : Hid (w.heap.size < w4.heap.size) := Lib.hid (by have h1 := z_a_3.out; have h2 := hb4.size; first | (with_reducible exact Nat.lt_of_lt_of_le h1 h2) | omega | (simp at h2; omega))
      clear z_a_3
      have z_b_4 : Hid (w.heap.size + 1 < w4.heap.size) := Lib.hid (by have h1 := z_b_3.out; have h2 := hb4.size; first | (with_reducible exact Nat.lt_of_lt_of_le h1 h2) | omega | (simp at h2; omega))
      clear z_b_3
      have z_c_4 : Hid (w.heap.size + 1 + 1 < w4.heap.size) := Lib.hid (by have h1 := z_c_3.out; have h2 := hb4.size; first | (with_reducible exact Nat.lt_of_lt_of_le h1 h2) | omega | (simp at h2; omega))
      clear z_c_3
      have B4 : Below w.heap.size w w4 := by
        refine Below.trans ?_ (hb4.mono (by first | with_reducible exact B3.size | (have := B3.size; simp; omega)))
        repeat (first | with_reducible assumption | with_reducible exact Below.refl _ _ | apply Below.drew | refine Below.setCell ?_ (by first | omega | (simp; done) | (simp; omega)) _ | refine Below.alloc ?_ (by first | omega | (simp; done) | (simp; omega)) _)
      clear hb4 B3
      go_wp2_with fail
      go_at_call 8
      (with_reducible refine (better_bad _ _ _ _ _ _ _ _ _ (by rw [H3.out, Bool.and_false])).mono ?_)
      rintro e w5 ⟨rfl, hb5⟩
      obtain ⟨hc, hf⟩ := bcell hb5
      have a_0_5 : w5.cell? ⟨w.heap.size, 0, none⟩ = some (.int .i64 r) := by rw [hc _ _ z_a_4.out]; go_simp
      have a_1_5 : w5.cell? ⟨w.heap.size, 1, none⟩ = some (.int .i64 c) := by rw [hc _ _ z_a_4.out]; go_simp
      have a_2_5 : w5.cell? ⟨w.heap.size, 2, none⟩ = some (.int .i64 b) := by rw [hc _ _ z_a_4.out]; go_simp
      have a_3_5 : w5.cell? ⟨w.heap.size, 3, none⟩ = some (.int .i64 p) := by rw [hc _ _ z_a_4.out]; go_simp
      have b_0_5 : w5.cell? ⟨w.heap.size + 1, 0, none⟩ = some (.int .i64 r2) := by rw [hc _ _ z_b_4.out]; go_simp
      have b_1_5 : w5.cell? ⟨w.heap.size + 1, 1, none⟩ = some (.int .i64 c2) := by rw [hc _ _ z_b_4.out]; go_simp
      have b_2_5 : w5.cell? ⟨w.heap.size + 1, 2, none⟩ = some (.int .i64 b2) := by rw [hc _ _ z_b_4.out]; go_simp
      have b_3_5 : w5.cell? ⟨w.heap.size + 1, 3, none⟩ = some (.int .i64 p2) := by rw [hc _ _ z_b_4.out]; go_simp
      have c_0_5 : w5.cell? ⟨w.heap.size + 1 + 1, 0, none⟩ = some (.int .i64 r3) := by rw [hc _ _ z_c_4.out]; go_simp
      have c_1_5 : w5.cell? ⟨w.heap.size + 1 + 1, 1, none⟩ = some (.int .i64 c3) := by rw [hc _ _ z_c_4.out]; go_simp
      have c_2_5 : w5.cell? ⟨w.heap.size + 1 + 1, 2, none⟩ = some (.int .i64 b3) := by rw [hc _ _ z_c_4.out]; go_simp
      have c_3_5 : w5.cell? ⟨w.heap.size + 1 + 1, 3, none⟩ = some (.int .i64 p3) := by rw [hc _ _ z_c_4.out]; go_simp
      clear hc hf a_0_4 a_1_4 a_2_4 a_3_4 b_0_4 b_1_4 b_2_4 b_3_4 c_0_4 c_1_4 c_2_4 c_3_4
      have z_a_5 : Hid (w.heap.size < w5.heap.size) := Lib.hid (by have h1 := z_a_4.out; have h2 := hb5.size; first | (with_reducible exact Nat.lt_of_lt_of_le h1 h2) | omega | (simp at h2; omega))
      clear z_a_4
      have z_b_5 : Hid (w.heap.size + 1 < w5.heap.size) := Lib.hid (by have h1 := z_b_4.out; have h2 := hb5.size; first | (with_reducible exact Nat.lt_of_lt_of_le h1 h2) | omega | (simp at h2; omega))
      clear z_b_4
      have z_c_5 : Hid (w.heap.size + 1 + 1 < w5.heap.size) := Lib.hid (by have h1 := z_c_4.out; have h2 := hb5.size; first | (with_reducible exact Nat.lt_of_lt_of_le h1 h2) | omega | (simp at h2; omega))
      clear z_c_4
      have B5 : Below w.heap.size w w5 := by
        refine Below.trans ?_ (hb5.mono (by first | with_reducible exact B4.size | (have := B4.size; simp; omega)))
        repeat (first | with_reducible assumption | with_reducible exact Below.refl _ _ | apply Below.drew | refine Below.setCell ?_ (by first | omega | (simp; done) | (simp; omega)) _ | refine Below.alloc ?_ (by first | omega | (simp; done) | (simp; omega)) _)
      clear hb5 B4
      go_wp2_with fail
      go_ret
      exact ⟨rfl, B5⟩
    · go_wp2_with fail
      go_at_call 8
      (with_reducible refine (better_good _ _ _ _ _ _ _ _ _ H2.out H3.out).mono ?_)
      rintro e w4 ⟨rfl, hb4⟩
      obtain ⟨hc, hf⟩ := bcell hb4
      have a_0_4 : w4.cell? ⟨w.heap.size, 0, none⟩ = some (.int .i64 r) := by rw [hc _ _ z_a_3.out]; go_simp
      have a_1_4 : w4.cell? ⟨w.heap.size, 1, none⟩ = some (.int .i64 c) := by rw [hc _ _ z_a_3.out]; go_simp
      have a_2_4 : w4.cell? ⟨w.heap.size, 2, none⟩ = some (.int .i64 b) := by rw [hc _ _ z_a_3.out]; go_simp
      have a_3_4 : w4.cell? ⟨w.heap.size, 3, none⟩ = some (.int .i64 p) := by rw [hc _ _ z_a_3.out]; go_simp
      have b_0_4 : w4.cell? ⟨w.heap.size + 1, 0, none⟩ = some (.int .i64 r2) := by rw [hc _ _ z_b_3.out]; go_simp
      have b_1_4 : w4.cell? ⟨w.heap.size + 1, 1, none⟩ = some (.int .i64 c2) := by rw [hc _ _ z_b_3.out]; go_simp
      have b_2_4 : w4.cell? ⟨w.heap.size + 1, 2, none⟩ = some (.int .i64 b2) := by rw [hc _ _ z_b_3.out]; go_simp
      have b_3_4 : w4.cell? ⟨w.heap.size + 1, 3, none⟩ = some (.int .i64 p2) := by rw [hc _ _ z_b_3.out]; go_simp
      have c_0_4 : w4.cell? ⟨w.heap.size + 1 + 1, 0, none⟩ = some (.int .i64 r3) := by rw [hc _ _ z_c_3.out]; go_simp
      have c_1_4 : w4.cell? ⟨w.heap.size + 1 + 1, 1, none⟩ = some (.int .i64 c3) := by rw [hc _ _ z_c_3.out]; go_simp
      have c_2_4 : w4.cell? ⟨w.heap.size + 1 + 1, 2, none⟩ = some (.int .i64 b3) := by rw [hc _ _ z_c_3.out]; go_simp
      have c_3_4 : w4.cell? ⟨w.heap.size + 1 + 1, 3, none⟩ = some (.int .i64 p3) := by rw [hc _ _ z_c_3.out]; go_simp
      clear hc hf a_0_3 a_1_3 a_2_3 a_3_3 b_0_3 b_1_3 b_2_3 b_3_3 c_0_3 c_1_3 c_2_3 c_3_3
      have z_a_4 : Hid (w.heap.size < w4.heap.size) := Lib.hid (by have h1 := z_a_3.out; have h2 := hb4.size; first | (with_reducible exact Nat.lt_of_lt_of_le h1 h2) | omega | (simp at h2; omega))
      clear z_a_3
      have z_b_4 : Hid (w.heap.size + 1 < w4.heap.size) := Lib.hid (by have h1 := z_b_3.out; have h2 := hb4.size; first | (with_reducible exact Nat.lt_of_lt_of_le h1 h2) | omega | (simp at h2; omega))
      clear z_b_3
      have z_c_4 : Hid (w.heap.size + 1 + 1 < w4.heap.size) := Lib.hid (by have h1 := z_c_3.out; have h2 := hb4.size; first | (with_reducible exact Nat.lt_of_lt_of_le h1 h2) | omega | (simp at h2; omega))
      clear z_c_3
      have B4 : Below w.heap.size w w4 := by
        refine Below.trans ?_ (hb4.mono (by first | with_reducible exact B3.size | (have := B3.size; simp; omega)))
        repeat (first | with_reducible assumption | with_reducible exact Below.refl _ _ | apply Below.drew | refine Below.setCell ?_ (by first | omega | (simp; done) | (simp; omega)) _ | refine Below.alloc ?_ (by first | omega | (simp; done) | (simp; omega)) _)
      clear hb4 B3
      rw [Hbc.out]
      go_wp2_with fail
      go_at_call 8
      (with_reducible refine (better_good _ _ _ _ _ _ _ _ _ H.out H3.out).mono ?_)
      rintro e w5 ⟨rfl, hb5⟩
      obtain ⟨hc, hf⟩ := bcell hb5
      have a_0_5 : w5.cell? ⟨w.heap.size, 0, none⟩ = some (.int .i64 r) := by rw [hc _ _ z_a_4.out]; go_simp
      have a_1_5 : w5.cell? ⟨w.heap.size, 1, none⟩ = some (.int .i64 c) := by rw [hc _ _ z_a_4.out]; go_simp
      have a_2_5 : w5.cell? ⟨w.heap.size, 2, none⟩ = some (.int .i64 b) := by rw [hc _ _ z_a_4.out]; go_simp
      have a_3_5 : w5.cell? ⟨w.heap.size, 3, none⟩ = some (.int .i64 p) := by rw [hc _ _ z_a_4.out]; go_simp
      have b_0_5 : w5.cell? ⟨w.heap.size + 1, 0, none⟩ = some (.int .i64 r2) := by rw [hc _ _ z_b_4.out]; go_simp
      have b_1_5 : w5.cell? ⟨w.heap.size + 1, 1, none⟩ = some (.int .i64 c2) := by rw [hc _ _ z_b_4.out]; go_simp
      have b_2_5 : w5.cell? ⟨w.heap.size + 1, 2, none⟩ = some (.int .i64 b2) := by rw [hc _ _ z_b_4.out]; go_simp
      have b_3_5 : w5.cell? ⟨w.heap.size + 1, 3, none⟩ = some (.int .i64 p2) := by rw [hc _ _ z_b_4.out]; go_simp
      have c_0_5 : w5.cell? ⟨w.heap.size + 1 + 1, 0, none⟩ = some (.int .i64 r3) := by rw [hc _ _ z_c_4.out]; go_simp
      have c_1_5 : w5.cell? ⟨w.heap.size + 1 + 1, 1, none⟩ = some (.int .i64 c3) := by rw [hc _ _ z_c_4.out]; go_simp
      have c_2_5 : w5.cell? ⟨w.heap.size + 1 + 1, 2, none⟩ = some (.int .i64 b3) := by rw [hc _ _ z_c_4.out]; go_simp
      have c_3_5 : w5.cell? ⟨w.heap.size + 1 + 1, 3, none⟩ = some (.int .i64 p3) := by rw [hc _ _ z_c_4.out]; go_simp
      clear hc hf a_0_4 a_1_4 a_2_4 a_3_4 b_0_4 b_1_4 b_2_4 b_3_4 c_0_4 c_1_4 c_2_4 c_3_4
      have z_a_5 : Hid (w.heap.size < w5.heap.size) := Lib.hid (by have h1 := z_a_4.out; have h2 := hb5.size; first | (with_reducible exact Nat.lt_of_lt_of_le h1 h2) | omega | (simp at h2; omega))
      clear z_a_4
      have z_b_5 : Hid (w.heap.size + 1 < w5.heap.size) := Lib.hid (by have h1 := z_b_4.out; have h2 := hb5.size; first | (with_reducible exact Nat.lt_of_lt_of_le h1 h2) | omega | (simp at h2; omega))
      clear z_b_4
      have z_c_5 : Hid (w.heap.size + 1 + 1 < w5.heap.size) := Lib.hid (by have h1 := z_c_4.out; have h2 := hb5.size; first | (with_reducible exact Nat.lt_of_lt_of_le h1 h2) | omega | (simp at h2; omega))
      clear z_c_4
      have B5 : Below w.heap.size w w5 := by
        refine Below.trans ?_ (hb5.mono (by first | with_reducible exact B4.size | (have := B4.size; simp; omega)))
        repeat (first | with_reducible assumption | with_reducible exact Below.refl _ _ | apply Below.drew | refine Below.setCell ?_ (by first | omega | (simp; done) | (simp; omega)) _ | refine Below.alloc ?_ (by first | omega | (simp; done) | (simp; omega)) _)
      clear hb5 B4
      rw [Hac.out]
      cases bc <;> cases ac <;> first | (cases (Ht.out rfl); done) | (go_wp2_with fail; go_ret; exact ⟨rfl, B5⟩)

set_option maxHeartbeats 4000000 in
theorem order_apart1 (r c b p c2 b2 p2 r3 c3 b3 p3 : Int) (w : World) (x ab bc ac : Bool) (h : okV r c b p = true) (h2 : okV r c2 b2 p2 = true) (h3 : okV r3 c3 b3 p3 = x) (hd : (c == c2) = false) (hab : betB r c b p r c2 b2 p2 = ab) (hba : betB r c2 b2 p2 r c b p = !ab) (hbc : betB r c2 b2 p2 r3 c3 b3 p3 = bc) (hac : betB r c b p r3 c3 b3 p3 = ac) (ht : (ab && bc) = true → ac = true) :
    Calls Try.prog 4 #[vv r c b p, vv r c2 b2 p2, vv r3 c3 b3 p3] w fun e w' => e = .returned (.bool true) ∧ Below w.heap.size w w' := by
  have H := Lib.hid h
  have H2 := Lib.hid h2
  have H3 := Lib.hid h3
  have Hab := Lib.hid hab
  have Hba := Lib.hid hba
  have Hbc := Lib.hid hbc
  have Hac := Lib.hid hac
  have Ht := Lib.hid ht
  have Hd := Lib.hid hd
  clear h h2 h3 hab hba hbc hac ht hd
  go_enter Try.func4, Try.ntmps4
  go_wp2_with fail
  go_at_call 8
  (with_reducible refine (better_good _ _ _ _ _ _ _ _ _ H.out H2.out).mono ?_)
  rintro e w1 ⟨rfl, hb1⟩
  obtain ⟨hc, hf⟩ := bcell hb1
  have a_0_1 : w1.cell? ⟨w.heap.size, 0, none⟩ = some (.int .i64 r) := by rw [hc _ _ (by first | with_reducible assumption | omega | (simp; done) | (simp; omega))]; go_simp
  have a_1_1 : w1.cell? ⟨w.heap.size, 1, none⟩ = some (.int .i64 c) := by rw [hc _ _ (by first | with_reducible assumption | omega | (simp; done) | (simp; omega))]; go_simp
  have a_2_1 : w1.cell? ⟨w.heap.size, 2, none⟩ = some (.int .i64 b) := by rw [hc _ _ (by first | with_reducible assumption | omega | (simp; done) | (simp; omega))]; go_simp
  have a_3_1 : w1.cell? ⟨w.heap.size, 3, none⟩ = some (.int .i64 p) := by rw [hc _ _ (by first | with_reducible assumption | omega | (simp; done) | (simp; omega))]; go_simp
  have b_0_1 : w1.cell? ⟨w.heap.size + 1, 0, none⟩ = some (.int .i64 r) := by rw [hc _ _ (by first | with_reducible assumption | omega | (simp; done) | (simp; omega))]; go_simp
  have b_1_1 : w1.cell? ⟨w.heap.size + 1, 1, none⟩ = some (.int .i64 c2) := by rw [hc _ _ (by first | with_reducible assumption | omega | (simp; done) | (simp; omega))]; go_simp
  have b_2_1 : w1.cell? ⟨w.heap.size + 1, 2, none⟩ = some (.int .i64 b2) := by rw [hc _ _ (by first | with_reducible assumption | omega | (simp; done) | (simp; omega))]; go_simp
  have b_3_1 : w1.cell? ⟨w.heap.size + 1, 3, none⟩ = some (.int .i64 p2) := by rw [hc _ _ (by first | with_reducible assumption | omega | (simp; done) | (simp; omega))]; go_simp
  have c_0_1 : w1.cell? ⟨w.heap.size + 1 + 1, 0, none⟩ = some (.int .i64 r3) := by rw [hc _ _ (by first | with_reducible assumption | omega | (simp; done) | (simp; omega))]; go_simp
  have c_1_1 : w1.cell? ⟨w.heap.size + 1 + 1, 1, none⟩ = some (.int .i64 c3) := by rw [hc _ _ (by first | with_reducible assumption | omega | (simp; done) | (simp; omega))]; go_simp
  have c_2_1 : w1.cell? ⟨w.heap.size + 1 + 1, 2, none⟩ = some (.int .i64 b3) := by rw [hc _ _ (by first | with_reducible assumption | omega | (simp; done) | (simp; omega))]; go_simp
  have c_3_1 : w1.cell? ⟨w.heap.size + 1 + 1, 3, none⟩ = some (.int .i64 p3) := by rw [hc _ _ (by first | with_reducible assumption | omega | (simp; done) | (simp; omega))]; go_simp
  clear hc hf
  have z_a_1 : Hid (w.heap.size < w1.heap.size) := Lib.hid (by have h2 := hb1.size; first | omega | (simp at h2; omega))
  have z_b_1 : Hid (w.heap.size + 1 < w1.heap.size) := Lib.hid (by have h2 := hb1.size; first | omega | (simp at h2; omega))
  have z_c_1 : Hid (w.heap.size + 1 + 1 < w1.heap.size) := Lib.hid (by have h2 := hb1.size; first | omega | (simp at h2; omega))
  have B1 : Below w.heap.size w w1 := by
    refine Below.trans ?_ (hb1.mono (by first | with_reducible exact Nat.le_refl _ | (simp; done) | (simp; omega)))
    repeat (first | with_reducible assumption | with_reducible exact Below.refl _ _ | apply Below.drew | refine Below.setCell ?_ (by first | omega | (simp; done) | (simp; omega)) _ | refine Below.alloc ?_ (by first | omega | (simp; done) | (simp; omega)) _)
  clear hb1
  rw [Hab.out]
  go_wp2_with fail
  go_at_call 8
  (with_reducible refine (better_good _ _ _ _ _ _ _ _ _ H2.out H.out).mono ?_)
  rintro e w2 ⟨rfl, hb2⟩
  obtain ⟨hc, hf⟩ := bcell hb2
  have a_0_2 : w2.cell? ⟨w.heap.size, 0, none⟩ = some (.int .i64 r) := by rw [hc _ _ z_a_1.out]; go_simp
  have a_1_2 : w2.cell? ⟨w.heap.size, 1, none⟩ = some (.int .i64 c) := by rw [hc _ _ z_a_1.out]; go_simp
  have a_2_2 : w2.cell? ⟨w.heap.size, 2, none⟩ = some (.int .i64 b) := by rw [hc _ _ z_a_1.out]; go_simp
  have a_3_2 : w2.cell? ⟨w.heap.size, 3, none⟩ = some (.int .i64 p) := by rw [hc _ _ z_a_1.out]; go_simp
  have b_0_2 : w2.cell? ⟨w.heap.size + 1, 0, none⟩ = some (.int .i64 r) := by rw [hc _ _ z_b_1.out]; go_simp
  have b_1_2 : w2.cell? ⟨w.heap.size + 1, 1, none⟩ = some (.int .i64 c2) := by rw [hc _ _ z_b_1.out]; go_simp
  have b_2_2 : w2.cell? ⟨w.heap.size + 1, 2, none⟩ = some (.int .i64 b2) := by rw [hc _ _ z_b_1.out]; go_simp
  have b_3_2 : w2.cell? ⟨w.heap.size + 1, 3, none⟩ = some (.int .i64 p2) := by rw [hc _ _ z_b_1.out]; go_simp
  have c_0_2 : w2.cell? ⟨w.heap.size + 1 + 1, 0, none⟩ = some (.int .i64 r3) := by rw [hc _ _ z_c_1.out]; go_simp
  have c_1_2 : w2.cell? ⟨w.heap.size + 1 + 1, 1, none⟩ = some (.int .i64 c3) := by rw [hc _ _ z_c_1.out]; go_simp
  have c_2_2 : w2.cell? ⟨w.heap.size + 1 + 1, 2, none⟩ = some (.int .i64 b3) := by rw [hc _ _ z_c_1.out]; go_simp
  have c_3_2 : w2.cell? ⟨w.heap.size + 1 + 1, 3, none⟩ = some (.int .i64 p3) := by rw [hc _ _ z_c_1.out]; go_simp
  clear hc hf a_0_1 a_1_1 a_2_1 a_3_1 b_0_1 b_1_1 b_2_1 b_3_1 c_0_1 c_1_1 c_2_1 c_3_1
  have z_a_2 : Hid (w.heap.size < w2.heap.size) := Lib.hid (by have h1 := z_a_1.out; have h2 := hb2.size; first | (with_reducible exact Nat.lt_of_lt_of_le h1 h2) | omega | (simp at h2; omega))
  clear z_a_1
  have z_b_2 : Hid (w.heap.size + 1 < w2.heap.size) := Lib.hid (by have h1 := z_b_1.out; have h2 := hb2.size; first | (with_reducible exact Nat.lt_of_lt_of_le h1 h2) | omega | (simp at h2; omega))
  clear z_b_1
  have z_c_2 : Hid (w.heap.size + 1 + 1 < w2.heap.size) := Lib.hid (by have h1 := z_c_1.out; have h2 := hb2.size; first | (with_reducible exact Nat.lt_of_lt_of_le h1 h2) | omega | (simp at h2; omega))
  clear z_c_1
  have B2 : Below w.heap.size w w2 := by
    refine Below.trans ?_ (hb2.mono (by first | with_reducible exact B1.size | (have := B1.size; simp; omega)))
    repeat (first | with_reducible assumption | with_reducible exact Below.refl _ _ | apply Below.drew | refine Below.setCell ?_ (by first | omega | (simp; done) | (simp; omega)) _ | refine Below.alloc ?_ (by first | omega | (simp; done) | (simp; omega)) _)
  clear hb2 B1
  rw [Hba.out]
  cases ab
  · have Hd' := Hd.out
    go_wp2_with fail
    go_at_call 14
    (with_reducible refine (alive_any _).mono ?_)
    rintro e w3 ⟨rfl, hb3⟩
    obtain ⟨hc, hf⟩ := bcell hb3
    have a_0_3 : w3.cell? ⟨w.heap.size, 0, none⟩ = some (.int .i64 r) := by rw [hc _ _ z_a_2.out]; go_simp
    have a_1_3 : w3.cell? ⟨w.heap.size, 1, none⟩ = some (.int .i64 c) := by rw [hc _ _ z_a_2.out]; go_simp
    have a_2_3 : w3.cell? ⟨w.heap.size, 2, none⟩ = some (.int .i64 b) := by rw [hc _ _ z_a_2.out]; go_simp
    have a_3_3 : w3.cell? ⟨w.heap.size, 3, none⟩ = some (.int .i64 p) := by rw [hc _ _ z_a_2.out]; go_simp
    have b_0_3 : w3.cell? ⟨w.heap.size + 1, 0, none⟩ = some (.int .i64 r) := by rw [hc _ _ z_b_2.out]; go_simp
    have b_1_3 : w3.cell? ⟨w.heap.size + 1, 1, none⟩ = some (.int .i64 c2) := by rw [hc _ _ z_b_2.out]; go_simp
    have b_2_3 : w3.cell? ⟨w.heap.size + 1, 2, none⟩ = some (.int .i64 b2) := by rw [hc _ _ z_b_2.out]; go_simp
    have b_3_3 : w3.cell? ⟨w.heap.size + 1, 3, none⟩ = some (.int .i64 p2) := by rw [hc _ _ z_b_2.out]; go_simp
    have c_0_3 : w3.cell? ⟨w.heap.size + 1 + 1, 0, none⟩ = some (.int .i64 r3) := by rw [hc _ _ z_c_2.out]; go_simp
    have c_1_3 : w3.cell? ⟨w.heap.size + 1 + 1, 1, none⟩ = some (.int .i64 c3) := by rw [hc _ _ z_c_2.out]; go_simp
    have c_2_3 : w3.cell? ⟨w.heap.size + 1 + 1, 2, none⟩ = some (.int .i64 b3) := by rw [hc _ _ z_c_2.out]; go_simp
    have c_3_3 : w3.cell? ⟨w.heap.size + 1 + 1, 3, none⟩ = some (.int .i64 p3) := by rw [hc _ _ z_c_2.out]; go_simp
    clear hc hf a_0_2 a_1_2 a_2_2 a_3_2 b_0_2 b_1_2 b_2_2 b_3_2 c_0_2 c_1_2 c_2_2 c_3_2
    have z_a_3 : Hid (w.heap.size < w3.heap.size) := Lib.hid (by have h1 := z_a_2.out; have h2 := hb3.size; first | (with_reducible exact Nat.lt_of_lt_of_le h1 h2) | omega | (simp at h2; omega))
    clear z_a_2
    have z_b_3 : Hid (w.heap.size + 1 < w3.heap.size) := Lib.hid (by have h1 := z_b_2.out; have h2 := hb3.size; first | (with_reducible exact Nat.lt_of_lt_of_le h1 h2) | omega | (simp at h2; omega))
    clear z_b_2
    have z_c_3 : Hid (w.heap.size + 1 + 1 < w3.heap.size) := Lib.hid (by have h1 := z_c_2.out; have h2 := hb3.size; first | (with_reducible exact Nat.lt_of_lt_of_le h1 h2) | omega | (simp at h2; omega))
    clear z_c_2
    have B3 : Below w.heap.size w w3 := by
      refine Below.trans ?_ (hb3.mono (by first | with_reducible exact B2.size | (have := B2.size; simp; omega)))
      repeat (first | with_reducible assumption | with_reducible exact Below.refl _ _ | apply Below.drew | refine Below.setCell ?_ (by first | omega | (simp; done) | (simp; omega)) _ | refine Below.alloc ?_ (by first | omega | (simp; done) | (simp; omega)) _)
    clear hb3 B2
    cases x
    · go_wp2_with fail
      go_at_call 8
      (with_reducible refine (better_bad _ _ _ _ _ _ _ _ _ (by rw [H3.out, Bool.and_false])).mono ?_)
      rintro e w4 ⟨rfl, hb4⟩
      obtain ⟨hc, hf⟩ := bcell hb4
      have a_0_4 : w4.cell? ⟨w.heap.size, 0, none⟩ = some (.int .i64 r) := by rw [hc _ _ z_a_3.out]; go_simp
      have a_1_4 : w4.cell? ⟨w.heap.size, 1, none⟩ = some (.int .i64 c) := by rw [hc _ _ z_a_3.out]; go_simp
      have a_2_4 : w4.cell? ⟨w.heap.size, 2, none⟩ = some (.int .i64 b) := by rw [hc _ _ z_a_3.out]; go_simp
      have a_3_4 : w4.cell? ⟨w.heap.size, 3, none⟩ = some (.int .i64 p) := by rw [hc _ _ z_a_3.out]; go_simp
      have b_0_4 : w4.cell? ⟨w.heap.size + 1, 0, none⟩ = some (.int .i64 r) := by rw [hc _ _ z_b_3.out]; go_simp
      have b_1_4 : w4.cell? ⟨w.heap.size + 1, 1, none⟩ = some (.int .i64 c2) := by rw [hc _ _ z_b_3.out]; go_simp
      have b_2_4 : w4.cell? ⟨w.heap.size + 1, 2, none⟩ = some (.int .i64 b2) := by rw [hc _ _ z_b_3.out]; go_simp
      have b_3_4 : w4.cell? ⟨w.heap.size + 1, 3, none⟩ = some (.int .i64 p2) := by rw [hc _ _ z_b_3.out]; go_simp
      have c_0_4 : w4.cell? ⟨w.heap.size + 1 + 1, 0, none⟩ = some (.int .i64 r3) := by rw [hc _ _ z_c_3.out]; go_simp
      have c_1_4 : w4.cell? ⟨w.heap.size + 1 + 1, 1, none⟩ = some (.int .i64 c3) := by rw [hc _ _ z_c_3.out]; go_simp
      have c_2_4 : w4.cell? ⟨w.heap.size + 1 + 1, 2, none⟩ = some (.int .i64 b3) := by rw [hc _ _ z_c_3.out]; go_simp
      have c_3_4 : w4.cell? ⟨w.heap.size + 1 + 1, 3, none⟩ = some (.int .i64 p3) := by rw [hc _ _ z_c_3.out]; go_simp
      clear hc hf a_0_3 a_1_3 a_2_3 a_3_3 b_0_3 b_1_3 b_2_3 b_3_3 c_0_3 c_1_3 c_2_3 c_3_3
      have z_a_4 : Hid (w.heap.size < w4.heap.size) := Lib.hid (by have h1 := z_a_3.out; have h2 := hb4.size; first | (with_reducible exact Nat.lt_of_lt_of_le h1 h2) | omega | (simp at h2; omega))
      clear z_a_3
      have z_b_4 : Hid (w.heap.size + 1 < w4.heap.size) := Lib.hid (by have h1 := z_b_3.out; have h2 := hb4.size; first | (with_reducible exact Nat.lt_of_lt_of_le h1 h2) | omega | (simp at h2; omega))
      clear z_b_3
      have z_c_4 : Hid (w.heap.size + 1 + 1 < w4.heap.size) := Lib.hid (by have h1 := z_c_3.out; have h2 := hb4.size; first | (with_reducible exact Nat.lt_of_lt_of_le h1 h2) | omega | (simp at h2; omega))
      clear z_c_3
      have B4 : Below w.heap.size w w4 := by
        refine Below.trans ?_ (hb4.mono (by first | with_reducible exact B3.size | (have := B3.size; simp; omega)))
        repeat (first | with_reducible assumption | with_reducible exact Below.refl _ _ | apply Below.drew | refine Below.setCell ?_ (by first | omega | (simp; done) | (simp; omega)) _ | refine Below.alloc ?_ (by first | omega | (simp; done) | (simp; omega)) _)
      clear hb4 B3
      go_wp2_with fail
      go_at_call 8
      (with_reducible refine (better_bad _ _ _ _ _ _ _ _ _ (by rw [H3.out, Bool.and_false])).mono ?_)
      rintro e w5 ⟨rfl, hb5⟩
      obtain ⟨hc, hf⟩ := bcell hb5
      have a_0_5 : w5.cell? ⟨w.heap.size, 0, none⟩ = some (.int .i64 r) := by rw [hc _ _ z_a_4.out]; go_simp
      have a_1_5 : w5.cell? ⟨w.heap.size, 1, none⟩ = some (.int .i64 c) := by rw [hc _ _ z_a_4.out]; go_simp
      have a_2_5 : w5.cell? ⟨w.heap.size, 2, none⟩ = some (.int .i64 b) := by rw [hc _ _ z_a_4.out]; go_simp
      have a_3_5 : w5.cell? ⟨w.heap.size, 3, none⟩ = some (.int .i64 p) := by rw [hc _ _ z_a_4.out]; go_simp
      have b_0_5 : w5.cell? ⟨w.heap.size + 1, 0, none⟩ = some (.int .i64 r) := by rw [hc _ _ z_b_4.out]; go_simp
      have b_1_5 : w5.cell? ⟨w.heap.size + 1, 1, none⟩ = some (.int .i64 c2) := by rw [hc _ _ z_b_4.out]; go_simp
      have b_2_5 : w5.cell? ⟨w.heap.size + 1, 2, none⟩ = some (.int .i64 b2) := by rw [hc _ _ z_b_4.out]; go_simp
      have b_3_5 : w5.cell? ⟨w.heap.size + 1, 3, none⟩ = some (.int .i64 p2) := by rw [hc _ _ z_b_4.out]; go_simp
      have c_0_5 : w5.cell? ⟨w.heap.size + 1 + 1, 0, none⟩ = some (.int .i64 r3) := by rw [hc _ _ z_c_4.out]; go_simp
      have c_1_5 : w5.cell? ⟨w.heap.size + 1 + 1, 1, none⟩ = some (.int .i64 c3) := by rw [hc _ _ z_c_4.out]; go_simp
      have c_2_5 : w5.cell? ⟨w.heap.size + 1 + 1, 2, none⟩ = some (.int .i64 b3) := by rw [hc _ _ z_c_4.out]; go_simp
      have c_3_5 : w5.cell? ⟨w.heap.size + 1 + 1, 3, none⟩ = some (.int .i64 p3) := by rw [hc _ _ z_c_4.out]; go_simp
      clear hc hf a_0_4 a_1_4 a_2_4 a_3_4 b_0_4 b_1_4 b_2_4 b_3_4 c_0_4 c_1_4 c_2_4 c_3_4
      have z_a_5 : Hid (w.heap.size < w5.heap.size) := Lib.hid (by have h1 := z_a_4.out; have h2 := hb5.size; first | (with_reducible exact Nat.lt_of_lt_of_le h1 h2) | omega | (simp at h2; omega))
      clear z_a_4
      have z_b_5 : Hid (w.heap.size + 1 < w5.heap.size) := Lib.hid (by have h1 := z_b_4.out; have h2 := hb5.size; first | (with_reducible exact Nat.lt_of_lt_of_le h1 h2) | omega | (simp at h2; omega))
      clear z_b_4
      have z_c_5 : Hid (w.heap.size + 1 + 1 < w5.heap.size) := Lib.hid (by have h1 := z_c_4.out; have h2 := hb5.size; first | (with_reducible exact Nat.lt_of_lt_of_le h1 h2) | omega | (simp at h2; omega))
      clear z_c_4
      have B5 : Below w.heap.size w w5 := by
        refine Below.trans ?_ (hb5.mono (by first | with_reducible exact B4.size | (have := B4.size; simp; omega)))
        repeat (first | with_reducible assumption | with_reducible exact Below.refl _ _ | apply Below.drew | refine Below.setCell ?_ (by first | omega | (simp; done) | (simp; omega)) _ | refine Below.alloc ?_ (by first | omega | (simp; done) | (simp; omega)) _)
      clear hb5 B4
      go_wp2_with fail
      go_ret
      exact ⟨rfl, B5⟩
    · go_wp2_with fail
      go_at_call 8
      (with_reducible refine (better_good _ _ _ _ _ _ _ _ _ H2.out H3.out).mono ?_)
      rintro e w4 ⟨rfl, hb4⟩
      obtain ⟨hc, hf⟩ := bcell hb4
      have a_0_4 : w4.cell? ⟨w.heap.size, 0, none⟩ = some (.int .i64 r) := by rw [hc _ _ z_a_3.out]; go_simp
      have a_1_4 : w4.cell? ⟨w.heap.size, 1, none⟩ = some (.int .i64 c) := by rw [hc _ _ z_a_3.out]; go_simp
      have a_2_4 : w4.cell? ⟨w.heap.size, 2, none⟩ = some (.int .i64 b) := by rw [hc _ _ z_a_3.out]; go_simp
      have a_3_4 : w4.cell? ⟨w.heap.size, 3, none⟩ = some (.int .i64 p) := by rw [hc _ _ z_a_3.out]; go_simp
      have b_0_4 : w4.cell? ⟨w.heap.size + 1, 0, none⟩ = some (.int .i64 r) := by rw [hc _ _ z_b_3.out]; go_simp
      have b_1_4 : w4.cell? ⟨w.heap.size + 1, 1, none⟩ = some (.int .i64 c2) := by rw [hc _ _ z_b_3.out]; go_simp
      have b_2_4 : w4.cell? ⟨w.heap.size + 1, 2, none⟩ = some (.int .i64 b2) := by rw [hc _ _ z_b_3.out]; go_simp
      have b_3_4 : w4.cell? ⟨w.heap.size + 1, 3, none⟩ = some (.int .i64 p2) := by rw [hc _ _ z_b_3.out]; go_simp
      have c_0_4 : w4.cell? ⟨w.heap.size + 1 + 1, 0, none⟩ = some (.int .i64 r3) := by rw [hc _ _ z_c_3.out]; go_simp
      have c_1_4 : w4.cell? ⟨w.heap.size + 1 + 1, 1, none⟩ = some (.int .i64 c3) := by rw [hc _ _ z_c_3.out]; go_simp
      have c_2_4 : w4.cell? ⟨w.heap.size + 1 + 1, 2, none⟩ = some (.int .i64 b3) := by rw [hc _ _ z_c_3.out]; go_simp
      have c_3_4 : w4.cell? ⟨w.heap.size + 1 + 1, 3, none⟩ = some (.int .i64 p3) := by rw [hc _ _ z_c_3.out]; go_simp
      clear hc hf a_0_3 a_1_3 a_2_3 a_3_3 b_0_3 b_1_3 b_2_3 b_3_3 c_0_3 c_1_3 c_2_3 c_3_3
      have z_a_4 : Hid (w.heap.size < w4.heap.size) := Lib.hid (by have h1 := z_a_3.out; have h2 := hb4.size; first | (with_reducible exact Nat.lt_of_lt_of_le h1 h2) | omega | (simp at h2; omega))
      clear z_a_3
      have z_b_4 : Hid (w.heap.size + 1 < w4.heap.size) := Lib.hid (by have h1 := z_b_3.out; have h2 := hb4.size; first | (with_reducible exact Nat.lt_of_lt_of_le h1 h2) | omega | (simp at h2; omega))
      clear z_b_3
      have z_c_4 : Hid (w.heap.size + 1 + 1 < w4.heap.size) := Lib.hid (by have h1 := z_c_3.out; have h2 := hb4.size; first | (with_reducible exact Nat.lt_of_lt_of_le h1 h2) | omega | (simp at h2; omega))
      clear z_c_3
      have B4 : Below w.heap.size w w4 := by
        refine Below.trans ?_ (hb4.mono (by first | with_reducible exact B3.size | (have := B3.size; simp; omega)))
        repeat (first | with_reducible assumption | with_reducible exact Below.refl _ _ | apply Below.drew | refine Below.setCell ?_ (by first | omega | (simp; done) | (simp; omega)) _ | refine Below.alloc ?_ (by first | omega | (simp; done) | (simp; omega)) _)
      clear hb4 B3
      rw [Hbc.out]
      go_wp2_with fail
      go_at_call 8
      (with_reducible refine (better_good _ _ _ _ _ _ _ _ _ H.out H3.out).mono ?_)
      rintro e w5 ⟨rfl, hb5⟩
      obtain ⟨hc, hf⟩ := bcell hb5
      have a_0_5 : w5.cell? ⟨w.heap.size, 0, none⟩ = some (.int .i64 r) := by rw [hc _ _ z_a_4.out]; go_simp
      have a_1_5 : w5.cell? ⟨w.heap.size, 1, none⟩ = some (.int .i64 c) := by rw [hc _ _ z_a_4.out]; go_simp
      have a_2_5 : w5.cell? ⟨w.heap.size, 2, none⟩ = some (.int .i64 b) := by rw [hc _ _ z_a_4.out]; go_simp
      have a_3_5 : w5.cell? ⟨w.heap.size, 3, none⟩ = some (.int .i64 p) := by rw [hc _ _ z_a_4.out]; go_simp
      have b_0_5 : w5.cell? ⟨w.heap.size + 1, 0, none⟩ = some (.int .i64 r) := by rw [hc _ _ z_b_4.out]; go_simp
      have b_1_5 : w5.cell? ⟨w.heap.size + 1, 1, none⟩ = some (.int .i64 c2) := by rw [hc _ _ z_b_4.out]; go_simp
      have b_2_5 : w5.cell? ⟨w.heap.size + 1, 2, none⟩ = some (.int .i64 b2) := by rw [hc _ _ z_b_4.out]; go_simp
      have b_3_5 : w5.cell? ⟨w.heap.size + 1, 3, none⟩ = some (.int .i64 p2) := by rw [hc _ _ z_b_4.out]; go_simp
      have c_0_5 : w5.cell? ⟨w.heap.size + 1 + 1, 0, none⟩ = some (.int .i64 r3) := by rw [hc _ _ z_c_4.out]; go_simp
      have c_1_5 : w5.cell? ⟨w.heap.size + 1 + 1, 1, none⟩ = some (.int .i64 c3) := by rw [hc _ _ z_c_4.out]; go_simp
      have c_2_5 : w5.cell? ⟨w.heap.size + 1 + 1, 2, none⟩ = some (.int .i64 b3) := by rw [hc _ _ z_c_4.out]; go_simp
      have c_3_5 : w5.cell? ⟨w.heap.size + 1 + 1, 3, none⟩ = some (.int .i64 p3) := by rw [hc _ _ z_c_4.out]; go_simp
      clear hc hf a_0_4 a_1_4 a_2_4 a_3_4 b_0_4 b_1_4 b_2_4 b_3_4 c_0_4 c_1_4 c_2_4 c_3_4
      have z_a_5 : Hid (w.heap.size < w5.heap.size) := Lib.hid (by have h1 := z_a_4.out; have h2 := hb5.size; first | (with_reducible exact Nat.lt_of_lt_of_le h1 h2) | omega | (simp at h2; omega))
      clear z_a_4
      have z_b_5 : Hid (w.heap.size + 1 < w5.heap.size) := Lib.hid (by have h1 := z_b_4.out; have h2 := hb5.size; first | (with_reducible exact Nat.lt_of_lt_of_le h1 h2) | omega | (simp at h2; omega))
      clear z_b_4
      have z_c_5 : Hid (w.heap.size + 1 + 1 < w5.heap.size) := Lib.hid (by have h1 := z_c_4.out; have h2 := hb5.size; first | (with_reducible exact Nat.lt_of_lt_of_le h1 h2) | omega | (simp at h2; omega))
      clear z_c_4
      have B5 : Below w.heap.size w w5 := by
        refine Below.trans ?_ (hb5.mono (by first | with_reducible exact B4.size | (have := B4.size; simp; omega)))
        repeat (first | with_reducible assumption | with_reducible exact Below.refl _ _ | apply Below.drew | refine Below.setCell ?_ (by first | omega | (simp; done) | (simp; omega)) _ | refine Below.alloc ?_ (by first | omega | (simp; done) | (simp; omega)) _)
      clear hb5 B4
      rw [Hac.out]
      go_wp2_with fail
      go_ret
      exact ⟨rfl, B5⟩
  · have Hd' := Hd.out
    go_wp2_with fail
    go_at_call 14
    (with_reducible refine (alive_any _).mono ?_)
    rintro e w3 ⟨rfl, hb3⟩
    obtain ⟨hc, hf⟩ := bcell hb3
    have a_0_3 : w3.cell? ⟨w.heap.size, 0, none⟩ = some (.int .i64 r) := by rw [hc _ _ z_a_2.out]; go_simp
    have a_1_3 : w3.cell? ⟨w.heap.size, 1, none⟩ = some (.int .i64 c) := by rw [hc _ _ z_a_2.out]; go_simp
    have a_2_3 : w3.cell? ⟨w.heap.size, 2, none⟩ = some (.int .i64 b) := by rw [hc _ _ z_a_2.out]; go_simp
    have a_3_3 : w3.cell? ⟨w.heap.size, 3, none⟩ = some (.int .i64 p) := by rw [hc _ _ z_a_2.out]; go_simp
    have b_0_3 : w3.cell? ⟨w.heap.size + 1, 0, none⟩ = some (.int .i64 r) := by rw [hc _ _ z_b_2.out]; go_simp
    have b_1_3 : w3.cell? ⟨w.heap.size + 1, 1, none⟩ = some (.int .i64 c2) := by rw [hc _ _ z_b_2.out]; go_simp
    have b_2_3 : w3.cell? ⟨w.heap.size + 1, 2, none⟩ = some (.int .i64 b2) := by rw [hc _ _ z_b_2.out]; go_simp
    have b_3_3 : w3.cell? ⟨w.heap.size + 1, 3, none⟩ = some (.int .i64 p2) := by rw [hc _ _ z_b_2.out]; go_simp
    have c_0_3 : w3.cell? ⟨w.heap.size + 1 + 1, 0, none⟩ = some (.int .i64 r3) := by rw [hc _ _ z_c_2.out]; go_simp
    have c_1_3 : w3.cell? ⟨w.heap.size + 1 + 1, 1, none⟩ = some (.int .i64 c3) := by rw [hc _ _ z_c_2.out]; go_simp
    have c_2_3 : w3.cell? ⟨w.heap.size + 1 + 1, 2, none⟩ = some (.int .i64 b3) := by rw [hc _ _ z_c_2.out]; go_simp
    have c_3_3 : w3.cell? ⟨w.heap.size + 1 + 1, 3, none⟩ = some (.int .i64 p3) := by rw [hc _ _ z_c_2.out]; go_simp
    clear hc hf a_0_2 a_1_2 a_2_2 a_3_2 b_0_2 b_1_2 b_2_2 b_3_2 c_0_2 c_1_2 c_2_2 c_3_2
    have z_a_3 : Hid (w.heap.size < w3.heap.size) := Lib.hid (by have h1 := z_a_2.out; have h2 := hb3.size; first | (with_reducible exact Nat.lt_of_lt_of_le h1 h2) | omega | (simp at h2; omega))
    clear z_a_2
    have z_b_3 : Hid (w.heap.size + 1 < w3.heap.size) := Lib.hid (by have h1 := z_b_2.out; have h2 := hb3.size; first | (with_reducible exact Nat.lt_of_lt_of_le h1 h2) | omega | (simp at h2; omega))
    clear z_b_2
    have z_c_3 : Hid (w.heap.size + 1 + 1 < w3.heap.size) := Lib.hid (by have h1 := z_c_2.out; have h2 := hb3.size; first | (with_reducible exact Nat.lt_of_lt_of_le h1 h2) | omega | (simp at h2; omega))
    clear z_c_2
    have B3 : Below w.heap.size w w3 := by
      refine Below.trans ?_ (hb3.mono (by first | with_reducible exact B2.size | (have := B2.size; simp; omega)))
      repeat (first | with_reducible assumption | with_reducible exact Below.refl _ _ | apply Below.drew | refine Below.setCell ?_ (by first | omega | (simp; done) | (simp; omega)) _ | refine Below.alloc ?_ (by first | omega | (simp; done) | (simp; omega)) _)
    clear hb3 B2
    cases x
    · go_wp2_with fail
      go_at_call 8
      (with_reducible refine (better_bad _ _ _ _ _ _ _ _ _ (by rw [H3.out, Bool.and_false])).mono ?_)
      rintro e w4 ⟨rfl, hb4⟩
      obtain ⟨hc, hf⟩ := bcell hb4
      have a_0_4 : w4.cell? ⟨w.heap.size, 0, none⟩ = some (.int .i64 r) := by rw [hc _ _ z_a_3.out]; go_simp
      have a_1_4 : w4.cell? ⟨w.heap.size, 1, none⟩ = some (.int .i64 c) := by rw [hc _ _ z_a_3.out]; go_simp
      have a_2_4 : w4.cell? ⟨w.heap.size, 2, none⟩ = some (.int .i64 b) := by rw [hc _ _ z_a_3.out]; go_simp
      have a_3_4 : w4.cell? ⟨w.heap.size, 3, none⟩ = some (.int .i64 p) := by rw [hc _ _ z_a_3.out]; go_simp
      have b_0_4 : w4.cell? ⟨w.heap.size + 1, 0, none⟩ = some (.int .i64 r) := by rw [hc _ _ z_b_3.out]; go_simp
      have b_1_4 : w4.cell? ⟨w.heap.size + 1, 1, none⟩ = some (.int .i64 c2) := by rw [hc _ _ z_b_3.out]; go_simp
      have b_2_4 : w4.cell? ⟨w.heap.size + 1, 2, none⟩ = some (.int .i64 b2) := by rw [hc _ _ z_b_3.out]; go_simp
      have b_3_4 : w4.cell? ⟨w.heap.size + 1, 3, none⟩ = some (.int .i64 p2) := by rw [hc _ _ z_b_3.out]; go_simp
      have c_0_4 : w4.cell? ⟨w.heap.size + 1 + 1, 0, none⟩ = some (.int .i64 r3) := by rw [hc _ _ z_c_3.out]; go_simp
      have c_1_4 : w4.cell? ⟨w.heap.size + 1 + 1, 1, none⟩ = some (.int .i64 c3) := by rw [hc _ _ z_c_3.out]; go_simp
      have c_2_4 : w4.cell? ⟨w.heap.size + 1 + 1, 2, none⟩ = some (.int .i64 b3) := by rw [hc _ _ z_c_3.out]; go_simp
      have c_3_4 : w4.cell? ⟨w.heap.size + 1 + 1, 3, none⟩ = some (.int .i64 p3) := by rw [hc _ _ z_c_3.out]; go_simp
      clear hc hf a_0_3 a_1_3 a_2_3 a_3_3 b_0_3 b_1_3 b_2_3 b_3_3 c_0_3 c_1_3 c_2_3 c_3_3
      have z_a_4 : Hid (w.heap.size < w4.heap.size) := Lib.hid (by have h1 := z_a_3.out; have h2 := hb4.size; first | (with_reducible exact Nat.lt_of_lt_of_le h1 h2) | omega | (simp at h2; omega))
      clear z_a_3
      have z_b_4 : Hid (w.heap.size + 1 < w4.heap.size) := Lib.hid (by have h1 := z_b_3.out; have h2 := hb4.size; first | (with_reducible exact Nat.lt_of_lt_of_le h1 h2) | omega | (simp at h2; omega))
      clear z_b_3
      have z_c_4 : Hid (w.heap.size + 1 + 1 < w4.heap.size) := Lib.hid (by have h1 := z_c_3.out; have h2 := hb4.size; first | (with_reducible exact Nat.lt_of_lt_of_le h1 h2) | omega | (simp at h2; omega))
      clear z_c_3
      have B4 : Below w.heap.size w w4 := by
        refine Below.trans ?_ (hb4.mono (by first | with_reducible exact B3.size | (have := B3.size; simp; omega)))
        repeat (first | with_reducible assumption | with_reducible exact Below.refl _ _ | apply Below.drew | refine Below.setCell ?_ (by first | omega | (simp; done) | (simp; omega)) _ | refine Below.alloc ?_ (by first | omega | (simp; done) | (simp; omega)) _)
      clear hb4 B3
      go_wp2_with fail
      go_at_call 8
      (with_reducible refine (better_bad _ _ _ _ _ _ _ _ _ (by rw [H3.out, Bool.and_false])).mono ?_)
      rintro e w5 ⟨rfl, hb5⟩
      obtain ⟨hc, hf⟩ := bcell hb5
      have a_0_5 : w5.cell? ⟨w.heap.size, 0, none⟩ = some (.int .i64 r) := by rw [hc _ _ z_a_4.out]; go_simp
      have a_1_5 : w5.cell? ⟨w.heap.size, 1, none⟩ = some (.int .i64 c) := by rw [hc _ _ z_a_4.out]; go_simp
      have a_2_5 : w5.cell? ⟨w.heap.size, 2, none⟩ = some (.int .i64 b) := by rw [hc _ _ z_a_4.out]; go_simp
      have a_3_5 : w5.cell? ⟨w.heap.size, 3, none⟩ = some (.int .i64 p) := by rw [hc _ _ z_a_4.out]; go_simp
      have b_0_5 : w5.cell? ⟨w.heap.size + 1, 0, none⟩ = some (.int .i64 r) := by rw [hc _ _ z_b_4.out]; go_simp
      have b_1_5 : w5.cell? ⟨w.heap.size + 1, 1, none⟩ = some (.int .i64 c2) := by rw [hc _ _ z_b_4.out]; go_simp
      have b_2_5 : w5.cell? ⟨w.heap.size + 1, 2, none⟩ = some (.int .i64 b2) := by rw [hc _ _ z_b_4.out]; go_simp
      have b_3_5 : w5.cell? ⟨w.heap.size + 1, 3, none⟩ = some (.int .i64 p2) := by rw [hc _ _ z_b_4.out]; go_simp
      have c_0_5 : w5.cell? ⟨w.heap.size + 1 + 1, 0, none⟩ = some (.int .i64 r3) := by rw [hc _ _ z_c_4.out]; go_simp
      have c_1_5 : w5.cell? ⟨w.heap.size + 1 + 1, 1, none⟩ = some (.int .i64 c3) := by rw [hc _ _ z_c_4.out]; go_simp
      have c_2_5 : w5.cell? ⟨w.heap.size + 1 + 1, 2, none⟩ = some (.int .i64 b3) := by rw [hc _ _ z_c_4.out]; go_simp
      have c_3_5 : w5.cell? ⟨w.heap.size + 1 + 1, 3, none⟩ = some (.int .i64 p3) := by rw [hc _ _ z_c_4.out]; go_simp
      clear hc hf a_0_4 a_1_4 a_2_4 a_3_4 b_0_4 b_1_4 b_2_4 b_3_4 c_0_4 c_1_4 c_2_4 c_3_4
      have z_a_5 : Hid (w.heap.size < w5.heap.size) := Lib.hid (by have h1 := z_a_4.out; have h2 := hb5.size; first | (with_reducible exact Nat.lt_of_lt_of_le h1 h2) | omega | (simp at h2; omega))
      clear z_a_4
      have z_b_5 : Hid (w.heap.size + 1 < w5.heap.size) := Lib.hid (by have h1 := z_b_4.out; have h2 := hb5.size; first | (with_reducible exact Nat.lt_of_lt_of_le h1 h2) | omega | (simp at h2; omega))
      clear z_b_4
      have z_c_5 : Hid (w.heap.size + 1 + 1 < w5.heap.size) := Lib.hid (by have h1 := z_c_4.out; have h2 := hb5.size; first | (with_reducible exact Nat.lt_of_lt_of_le h1 h2) | omega | (simp at h2; omega))
      clear z_c_4
      have B5 : Below w.heap.size w w5 := by
        refine Below.trans ?_ (hb5.mono (by first | with_reducible exact B4.size | (have := B4.size; simp; omega)))
        repeat (first | with_reducible assumption | with_reducible exact Below.refl _ _ | apply Below.drew | refine Below.setCell ?_ (by first | omega | (simp; done) | (simp; omega)) _ | refine Below.alloc ?_ (by first | omega | (simp; done) | (simp; omega)) _)
      clear hb5 B4
      go_wp2_with fail
      go_ret
      exact ⟨rfl, B5⟩
    · go_wp2_with fail
      go_at_call 8
      (with_reducible refine (better_good _ _ _ _ _ _ _ _ _ H2.out H3.out).mono ?_)
      rintro e w4 ⟨rfl, hb4⟩
      obtain ⟨hc, hf⟩ := bcell hb4
      have a_0_4 : w4.cell? ⟨w.heap.size, 0, none⟩ = some (.int .i64 r) := by rw [hc _ _ z_a_3.out]; go_simp
      have a_1_4 : w4.cell? ⟨w.heap.size, 1, none⟩ = some (.int .i64 c) := by rw [hc _ _ z_a_3.out]; go_simp
      have a_2_4 : w4.cell? ⟨w.heap.size, 2, none⟩ = some (.int .i64 b) := by rw [hc _ _ z_a_3.out]; go_simp
      have a_3_4 : w4.cell? ⟨w.heap.size, 3, none⟩ = some (.int .i64 p) := by rw [hc _ _ z_a_3.out]; go_simp
      have b_0_4 : w4.cell? ⟨w.heap.size + 1, 0, none⟩ = some (.int .i64 r) := by rw [hc _ _ z_b_3.out]; go_simp
      have b_1_4 : w4.cell? ⟨w.heap.size + 1, 1, none⟩ = some (.int .i64 c2) := by rw [hc _ _ z_b_3.out]; go_simp
      have b_2_4 : w4.cell? ⟨w.heap.size + 1, 2, none⟩ = some (.int .i64 b2) := by rw [hc _ _ z_b_3.out]; go_simp
      have b_3_4 : w4.cell? ⟨w.heap.size + 1, 3, none⟩ = some (.int .i64 p2) := by rw [hc _ _ z_b_3.out]; go_simp
      have c_0_4 : w4.cell? ⟨w.heap.size + 1 + 1, 0, none⟩ = some (.int .i64 r3) := by rw [hc _ _ z_c_3.out]; go_simp
      have c_1_4 : w4.cell? ⟨w.heap.size + 1 + 1, 1, none⟩ = some (.int .i64 c3) := by rw [hc _ _ z_c_3.out]; go_simp
      have c_2_4 : w4.cell? ⟨w.heap.size + 1 + 1, 2, none⟩ = some (.int .i64 b3) := by rw [hc _ _ z_c_3.out]; go_simp
      have c_3_4 : w4.cell? ⟨w.heap.size + 1 + 1, 3, none⟩ = some (.int .i64 p3) := by rw [hc _ _ z_c_3.out]; go_simp
      clear hc hf a_0_3 a_1_3 a_2_3 a_3_3 b_0_3 b_1_3 b_2_3 b_3_3 c_0_3 c_1_3 c_2_3 c_3_3
      have z_a_4 : Hid (w.heap.size < w4.heap.size) := Lib.hid (by have h1 := z_a_3.out; have h2 := hb4.size; first | (with_reducible exact Nat.lt_of_lt_of_le h1 h2) | omega | (simp at h2; omega))
      clear z_a_3
      have z_b_4 : Hid (w.heap.size + 1 < w4.heap.size) := Lib.hid (by have h1 := z_b_3.out; have h2 := hb4.size; first | (with_reducible exact Nat.lt_of_lt_of_le h1 h2) | omega | (simp at h2; omega))
      clear z_b_3
      have z_c_4 : Hid (w.heap.size + 1 + 1 < w4.heap.size) := Lib.hid (by have h1 := z_c_3.out; have h2 := hb4.size; first | (with_reducible exact Nat.lt_of_lt_of_le h1 h2) | omega | (simp at h2; omega))
      clear z_c_3
      have B4 : Below w.heap.size w w4 := by
        refine Below.trans ?_ (hb4.mono (by first | with_reducible exact B3.size | (have := B3.size; simp; omega)))
        repeat (first | with_reducible assumption | with_reducible exact Below.refl _ _ | apply Below.drew | refine Below.setCell ?_ (by first | omega | (simp; done) | (simp; omega)) _ | refine Below.alloc ?_ (by first | omega | (simp; done) | (simp; omega)) _)
      clear hb4 B3
      rw [Hbc.out]
      go_wp2_with fail
      go_at_call 8
      (with_reducible refine (better_good _ _ _ _ _ _ _ _ _ H.out H3.out).mono ?_)
      rintro e w5 ⟨rfl, hb5⟩
      obtain ⟨hc, hf⟩ := bcell hb5
      have a_0_5 : w5.cell? ⟨w.heap.size, 0, none⟩ = some (.int .i64 r) := by rw [hc _ _ z_a_4.out]; go_simp
      have a_1_5 : w5.cell? ⟨w.heap.size, 1, none⟩ = some (.int .i64 c) := by rw [hc _ _ z_a_4.out]; go_simp
      have a_2_5 : w5.cell? ⟨w.heap.size, 2, none⟩ = some (.int .i64 b) := by rw [hc _ _ z_a_4.out]; go_simp
      have a_3_5 : w5.cell? ⟨w.heap.size, 3, none⟩ = some (.int .i64 p) := by rw [hc _ _ z_a_4.out]; go_simp
      have b_0_5 : w5.cell? ⟨w.heap.size + 1, 0, none⟩ = some (.int .i64 r) := by rw [hc _ _ z_b_4.out]; go_simp
      have b_1_5 : w5.cell? ⟨w.heap.size + 1, 1, none⟩ = some (.int .i64 c2) := by rw [hc _ _ z_b_4.out]; go_simp
      have b_2_5 : w5.cell? ⟨w.heap.size + 1, 2, none⟩ = some (.int .i64 b2) := by rw [hc _ _ z_b_4.out]; go_simp
      have b_3_5 : w5.cell? ⟨w.heap.size + 1, 3, none⟩ = some (.int .i64 p2) := by rw [hc _ _ z_b_4.out]; go_simp
      have c_0_5 : w5.cell? ⟨w.heap.size + 1 + 1, 0, none⟩ = some (.int .i64 r3) := by rw [hc _ _ z_c_4.out]; go_simp
      have c_1_5 : w5.cell? ⟨w.heap.size + 1 + 1, 1, none⟩ = some (.int .i64 c3) := by rw [hc _ _ z_c_4.out]; go_simp
      have c_2_5 : w5.cell? ⟨w.heap.size + 1 + 1, 2, none⟩ = some (.int .i64 b3) := by rw [hc _ _ z_c_4.out]; go_simp
      have c_3_5 : w5.cell? ⟨w.heap.size + 1 + 1, 3, none⟩ = some (.int .i64 p3) := by rw [hc _ _ z_c_4.out]; go_simp
      clear hc hf a_0_4 a_1_4 a_2_4 a_3_4 b_0_4 b_1_4 b_2_4 b_3_4 c_0_4 c_1_4 c_2_4 c_3_4
      have z_a_5 : Hid (w.heap.size < w5.heap.size) := Lib.hid (by have h1 := z_a_4.out; have h2 := hb5.size; first | (with_reducible exact Nat.lt_of_lt_of_le h1 h2) | omega | (simp at h2; omega))
      clear z_a_4
      have z_b_5 : Hid (w.heap.size + 1 < w5.heap.size) := Lib.hid (by have h1 := z_b_4.out; have h2 := hb5.size; first | (with_reducible exact Nat.lt_of_lt_of_le h1 h2) | omega | (simp at h2; omega))
      clear z_b_4
      have z_c_5 : Hid (w.heap.size + 1 + 1 < w5.heap.size) := Lib.hid (by have h1 := z_c_4.out; have h2 := hb5.size; first | (with_reducible exact Nat.lt_of_lt_of_le h1 h2) | omega | (simp at h2; omega))
      clear z_c_4
      have B5 : Below w.heap.size w w5 := by
        refine Below.trans ?_ (hb5.mono (by first | with_reducible exact B4.size | (have := B4.size; simp; omega)))
        repeat (first | with_reducible assumption | with_reducible exact Below.refl _ _ | apply Below.drew | refine Below.setCell ?_ (by first | omega | (simp; done) | (simp; omega)) _ | refine Below.alloc ?_ (by first | omega | (simp; done) | (simp; omega)) _)
      clear hb5 B4
      rw [Hac.out]
      cases bc <;> cases ac <;> first | (cases (Ht.out rfl); done) | (go_wp2_with fail; go_ret; exact ⟨rfl, B5⟩)

set_option maxHeartbeats 4000000 in
theorem order_apart2 (r c b p b2 p2 r3 c3 b3 p3 : Int) (w : World) (x ab bc ac : Bool) (h : okV r c b p = true) (h2 : okV r c b2 p2 = true) (h3 : okV r3 c3 b3 p3 = x) (hd : (b == b2) = false) (hab : betB r c b p r c b2 p2 = ab) (hba : betB r c b2 p2 r c b p = !ab) (hbc : betB r c b2 p2 r3 c3 b3 p3 = bc) (hac : betB r c b p r3 c3 b3 p3 = ac) (ht : (ab && bc) = true → ac = true) :
    Calls Try.prog 4 #[vv r c b p, vv r c b2 p2, vv r3 c3 b3 p3] w fun e w' => e = .returned (.bool true) ∧ Below w.heap.size w w' := by
  have H := Lib.hid h
  have H2 := Lib.hid h2
  have H3 := Lib.hid h3
  have Hab := Lib.hid hab
  have Hba := Lib.hid hba
  have Hbc := Lib.hid hbc
  have Hac := Lib.hid hac
  have Ht := Lib.hid ht
  have Hd := Lib.hid hd
  clear h h2 h3 hab hba hbc hac ht hd
  go_enter Try.func4, Try.ntmps4
  go_wp2_with fail
  go_at_call 8
  (with_reducible refine (better_good _ _ _ _ _ _ _ _ _ H.out H2.out).mono ?_)
  rintro e w1 ⟨rfl, hb1⟩
  obtain ⟨hc, hf⟩ := bcell hb1
  have a_0_1 : w1.cell? ⟨w.heap.size, 0, none⟩ = some (.int .i64 r) := by rw [hc _ _ (by first | with_reducible assumption | omega | (simp; done) | (simp; omega))]; go_simp
  have a_1_1 : w1.cell? ⟨w.heap.size, 1, none⟩ = some (.int .i64 c) := by rw [hc _ _ (by first | with_reducible assumption | omega | (simp; done) | (simp; omega))]; go_simp
  have a_2_1 : w1.cell? ⟨w.heap.size, 2, none⟩ = some (.int .i64 b) := by rw [hc _ _ (by first | with_reducible assumption | omega | (simp; done) | (simp; omega))]; go_simp
  have a_3_1 : w1.cell? ⟨w.heap.size, 3, none⟩ = some (.int .i64 p) := by rw [hc _ _ (by first | with_reducible assumption | omega | (simp; done) | (simp; omega))]; go_simp
  have b_0_1 : w1.cell? ⟨w.heap.size + 1, 0, none⟩ = some (.int .i64 r) := by rw [hc _ _ (by first | with_reducible assumption | omega | (simp; done) | (simp; omega))]; go_simp
  have b_1_1 : w1.cell? ⟨w.heap.size + 1, 1, none⟩ = some (.int .i64 c) := by rw [hc _ _ (by first | with_reducible assumption | omega | (simp; done) | (simp; omega))]; go_simp
  have b_2_1 : w1.cell? ⟨w.heap.size + 1, 2, none⟩ = some (.int .i64 b2) := by rw [hc _ _ (by first | with_reducible assumption | omega | (simp; done) | (simp; omega))]; go_simp
  have b_3_1 : w1.cell? ⟨w.heap.size + 1, 3, none⟩ = some (.int .i64 p2) := by rw [hc _ _ (by first | with_reducible assumption | omega | (simp; done) | (simp; omega))]; go_simp
  have c_0_1 : w1.cell? ⟨w.heap.size + 1 + 1, 0, none⟩ = some (.int .i64 r3) := by rw [hc _ _ (by first | with_reducible assumption | omega | (simp; done) | (simp; omega))]; go_simp
  have c_1_1 : w1.cell? ⟨w.heap.size + 1 + 1, 1, none⟩ = some (.int .i64 c3) := by rw [hc _ _ (by first | with_reducible assumption | omega | (simp; done) | (simp; omega))]; go_simp
  have c_2_1 : w1.cell? ⟨w.heap.size + 1 + 1, 2, none⟩ = some (.int .i64 b3) := by rw [hc _ _ (by first | with_reducible assumption | omega | (simp; done) | (simp; omega))]; go_simp
  have c_3_1 : w1.cell? ⟨w.heap.size + 1 + 1, 3, none⟩ = some (.int .i64 p3) := by rw [hc _ _ (by first | with_reducible assumption | omega | (simp; done) | (simp; omega))]; go_simp
  clear hc hf
  have z_a_1 : Hid (w.heap.size < w1.heap.size) := Lib.hid (by have h2 := hb1.size; first | omega | (simp at h2; omega))
  have z_b_1 : Hid (w.heap.size + 1 < w1.heap.size) := Lib.hid (by have h2 := hb1.size; first | omega | (simp at h2; omega))
  have z_c_1 : Hid (w.heap.size + 1 + 1 < w1.heap.size) := Lib.hid (by have h2 := hb1.size; first | omega | (simp at h2; omega))
  have B1 : Below w.heap.size w w1 := by
    refine Below.trans ?_ (hb1.mono (by first | with_reducible exact Nat.le_refl _ | (simp; done) | (simp; omega)))
    repeat (first | with_reducible assumption | with_reducible exact Below.refl _ _ | apply Below.drew | refine Below.setCell ?_ (by first | omega | (simp; done) | (simp; omega)) _ | refine Below.alloc ?_ (by first | omega | (simp; done) | (simp; omega)) _)
  clear hb1
  rw [Hab.out]
  go_wp2_with fail
  go_at_call 8
  (with_reducible refine (better_good _ _ _ _ _ _ _ _ _ H2.out H.out).mono ?_)
  rintro e w2 ⟨rfl, hb2⟩
  obtain ⟨hc, hf⟩ := bcell hb2
  have a_0_2 : w2.cell? ⟨w.heap.size, 0, none⟩ = some (.int .i64 r) := by rw [hc _ _ z_a_1.out]; go_simp
  have a_1_2 : w2.cell? ⟨w.heap.size, 1, none⟩ = some (.int .i64 c) := by rw [hc _ _ z_a_1.out]; go_simp
  have a_2_2 : w2.cell? ⟨w.heap.size, 2, none⟩ = some (.int .i64 b) := by rw [hc _ _ z_a_1.out]; go_simp
  have a_3_2 : w2.cell? ⟨w.heap.size, 3, none⟩ = some (.int .i64 p) := by rw [hc _ _ z_a_1.out]; go_simp
  have b_0_2 : w2.cell? ⟨w.heap.size + 1, 0, none⟩ = some (.int .i64 r) := by rw [hc _ _ z_b_1.out]; go_simp
  have b_1_2 : w2.cell? ⟨w.heap.size + 1, 1, none⟩ = some (.int .i64 c) := by rw [hc _ _ z_b_1.out]; go_simp
  have b_2_2 : w2.cell? ⟨w.heap.size + 1, 2, none⟩ = some (.int .i64 b2) := by rw [hc _ _ z_b_1.out]; go_simp
  have b_3_2 : w2.cell? ⟨w.heap.size + 1, 3, none⟩ = some (.int .i64 p2) := by rw [hc _ _ z_b_1.out]; go_simp
  have c_0_2 : w2.cell? ⟨w.heap.size + 1 + 1, 0, none⟩ = some (.int .i64 r3) := by rw [hc _ _ z_c_1.out]; go_simp
  have c_1_2 : w2.cell? ⟨w.heap.size + 1 + 1, 1, none⟩ = some (.int .i64 c3) := by rw [hc _ _ z_c_1.out]; go_simp
  have c_2_2 : w2.cell? ⟨w.heap.size + 1 + 1, 2, none⟩ = some (.int .i64 b3) := by rw [hc _ _ z_c_1.out]; go_simp
  have c_3_2 : w2.cell? ⟨w.heap.size + 1 + 1, 3, none⟩ = some (.int .i64 p3) := by rw [hc _ _ z_c_1.out]; go_simp
  clear hc hf a_0_1 a_1_1 a_2_1 a_3_1 b_0_1 b_1_1 b_2_1 b_3_1 c_0_1 c_1_1 c_2_1 c_3_1
  have z_a_2 : Hid (w.heap.size < w2.heap.size) := Lib.hid (by have h1 := z_a_1.out; have h2 := hb2.size; first | (with_reducible exact Nat.lt_of_lt_of_le h1 h2) | omega | (simp at h2; omega))
  clear z_a_1
  have z_b_2 : Hid (w.heap.size + 1 < w2.heap.size) := Lib.hid (by have h1 := z_b_1.out; have h2 := hb2.size; first | (with_reducible exact Nat.lt_of_lt_of_le h1 h2) | omega | (simp at h2; omega))
  clear z_b_1
  have z_c_2 : Hid (w.heap.size + 1 + 1 < w2.heap.size) := Lib.hid (by have h1 := z_c_1.out; have h2 := hb2.size; first | (with_reducible exact Nat.lt_of_lt_of_le h1 h2) | omega | (simp at h2; omega))
  clear z_c_1
  have B2 : Below w.heap.size w w2 := by
    refine Below.trans ?_ (hb2.mono (by first | with_reducible exact B1.size | (have := B1.size; simp; omega)))
    repeat (first | with_reducible assumption | with_reducible exact Below.refl _ _ | apply Below.drew | refine Below.setCell ?_ (by first | omega | (simp; done) | (simp; omega)) _ | refine Below.alloc ?_ (by first | omega | (simp; done) | (simp; omega)) _)
  clear hb2 B1
  rw [Hba.out]
  cases ab
  · have Hd' := Hd.out
    go_wp2_with fail
    go_at_call 14
    (with_reducible refine (alive_any _).mono ?_)
    rintro e w3 ⟨rfl, hb3⟩
    obtain ⟨hc, hf⟩ := bcell hb3
    have a_0_3 : w3.cell? ⟨w.heap.size, 0, none⟩ = some (.int .i64 r) := by rw [hc _ _ z_a_2.out]; go_simp
    have a_1_3 : w3.cell? ⟨w.heap.size, 1, none⟩ = some (.int .i64 c) := by rw [hc _ _ z_a_2.out]; go_simp
    have a_2_3 : w3.cell? ⟨w.heap.size, 2, none⟩ = some (.int .i64 b) := by rw [hc _ _ z_a_2.out]; go_simp
    have a_3_3 : w3.cell? ⟨w.heap.size, 3, none⟩ = some (.int .i64 p) := by rw [hc _ _ z_a_2.out]; go_simp
    have b_0_3 : w3.cell? ⟨w.heap.size + 1, 0, none⟩ = some (.int .i64 r) := by rw [hc _ _ z_b_2.out]; go_simp
    have b_1_3 : w3.cell? ⟨w.heap.size + 1, 1, none⟩ = some (.int .i64 c) := by rw [hc _ _ z_b_2.out]; go_simp
    have b_2_3 : w3.cell? ⟨w.heap.size + 1, 2, none⟩ = some (.int .i64 b2) := by rw [hc _ _ z_b_2.out]; go_simp
    have b_3_3 : w3.cell? ⟨w.heap.size + 1, 3, none⟩ = some (.int .i64 p2) := by rw [hc _ _ z_b_2.out]; go_simp
    have c_0_3 : w3.cell? ⟨w.heap.size + 1 + 1, 0, none⟩ = some (.int .i64 r3) := by rw [hc _ _ z_c_2.out]; go_simp
    have c_1_3 : w3.cell? ⟨w.heap.size + 1 + 1, 1, none⟩ = some (.int .i64 c3) := by rw [hc _ _ z_c_2.out]; go_simp
    have c_2_3 : w3.cell? ⟨w.heap.size + 1 + 1, 2, none⟩ = some (.int .i64 b3) := by rw [hc _ _ z_c_2.out]; go_simp
    have c_3_3 : w3.cell? ⟨w.heap.size + 1 + 1, 3, none⟩ = some (.int .i64 p3) := by rw [hc _ _ z_c_2.out]; go_simp
    clear hc hf a_0_2 a_1_2 a_2_2 a_3_2 b_0_2 b_1_2 b_2_2 b_3_2 c_0_2 c_1_2 c_2_2 c_3_2
    have z_a_3 : Hid (w.heap.size < w3.heap.size) := Lib.hid (by have h1 := z_a_2.out; have h2 := hb3.size; first | (with_reducible exact Nat.lt_of_lt_of_le h1 h2) | omega | (simp at h2; omega))
    clear z_a_2
    have z_b_3 : Hid (w.heap.size + 1 < w3.heap.size) := Lib.hid (by have h1 := z_b_2.out; have h2 := hb3.size; first | (with_reducible exact Nat.lt_of_lt_of_le h1 h2) | omega | (simp at h2; omega))
    clear z_b_2
    have z_c_3 : Hid (w.heap.size + 1 + 1 < w3.heap.size) := Lib.hid (by have h1 := z_c_2.out; have h2 := hb3.size; first | (with_reducible exact Nat.lt_of_lt_of_le h1 h2) | omega | (simp at h2; omega))
    clear z_c_2
    have B3 : Below w.heap.size w w3 := by
      refine Below.trans ?_ (hb3.mono (by first | with_reducible exact B2.size | (have := B2.size; simp; omega)))
      repeat (first | with_reducible assumption | with_reducible exact Below.refl _ _ | apply Below.drew | refine Below.setCell ?_ (by first | omega | (simp; done) | (simp; omega)) _ | refine Below.alloc ?_ (by first | omega | (simp; done) | (simp; omega)) _)
    clear hb3 B2
    cases x
    · go_wp2_with fail
      go_at_call 8
      (with_reducible refine (better_bad _ _ _ _ _ _ _ _ _ (by rw [H3.out, Bool.and_false])).mono ?_)
      rintro e w4 ⟨rfl, hb4⟩
      obtain ⟨hc, hf⟩ := bcell hb4
      have a_0_4 : w4.cell? ⟨w.heap.size, 0, none⟩ = some (.int .i64 r) := by rw [hc _ _ z_a_3.out]; go_simp
      have a_1_4 : w4.cell? ⟨w.heap.size, 1, none⟩ = some (.int .i64 c) := by rw [hc _ _ z_a_3.out]; go_simp
      have a_2_4 : w4.cell? ⟨w.heap.size, 2, none⟩ = some (.int .i64 b) := by rw [hc _ _ z_a_3.out]; go_simp
      have a_3_4 : w4.cell? ⟨w.heap.size, 3, none⟩ = some (.int .i64 p) := by rw [hc _ _ z_a_3.out]; go_simp
      have b_0_4 : w4.cell? ⟨w.heap.size + 1, 0, none⟩ = some (.int .i64 r) := by rw [hc _ _ z_b_3.out]; go_simp
      have b_1_4 : w4.cell? ⟨w.heap.size + 1, 1, none⟩ = some (.int .i64 c) := by rw [hc _ _ z_b_3.out]; go_simp
      have b_2_4 : w4.cell? ⟨w.heap.size + 1, 2, none⟩ = some (.int .i64 b2) := by rw [hc _ _ z_b_3.out]; go_simp
      have b_3_4 : w4.cell? ⟨w.heap.size + 1, 3, none⟩ = some (.int .i64 p2) := by rw [hc _ _ z_b_3.out]; go_simp
      have c_0_4 : w4.cell? ⟨w.heap.size + 1 + 1, 0, none⟩ = some (.int .i64 r3) := by rw [hc _ _ z_c_3.out]; go_simp
      have c_1_4 : w4.cell? ⟨w.heap.size + 1 + 1, 1, none⟩ = some (.int .i64 c3) := by rw [hc _ _ z_c_3.out]; go_simp
      have c_2_4 : w4.cell? ⟨w.heap.size + 1 + 1, 2, none⟩ = some (.int .i64 b3) := by rw [hc _ _ z_c_3.out]; go_simp
      have c_3_4 : w4.cell? ⟨w.heap.size + 1 + 1, 3, none⟩ = some (.int .i64 p3) := by rw [hc _ _ z_c_3.out]; go_simp
      clear hc hf a_0_3 a_1_3 a_2_3 a_3_3 b_0_3 b_1_3 b_2_3 b_3_3 c_0_3 c_1_3 c_2_3 c_3_3
      have z_a_4 : Hid (w.heap.size < w4.heap.size) := Lib.hid (by have h1 := z_a_3.out; have h2 := hb4.size; first | (with_reducible exact Nat.lt_of_lt_of_le h1 h2) | omega | (simp at h2; omega))
      clear z_a_3
      have z_b_4 : Hid (w.heap.size + 1 < w4.heap.size) := Lib.hid (by have h1 := z_b_3.out; have h2 := hb4.size; first | (with_reducible exact Nat.lt_of_lt_of_le h1 h2) | omega | (simp at h2; omega))
      clear z_b_3
      have z_c_4 : Hid (w.heap.size + 1 + 1 < w4.heap.size) := Lib.hid (by have h1 := z_c_3.out; have h2 := hb4.size; first | (with_reducible exact Nat.lt_of_lt_of_le h1 h2) | omega | (simp at h2; omega))
      clear z_c_3
      have B4 : Below w.heap.size w w4 := by
        refine Below.trans ?_ (hb4.mono (by first | with_reducible exact B3.size | (have := B3.size; simp; omega)))
        repeat (first | with_reducible assumption | with_reducible exact Below.refl _ _ | apply Below.drew | refine Below.setCell ?_ (by first | omega | (simp; done) | (simp; omega)) _ | refine Below.alloc ?_ (by first | omega | (simp; done) | (simp; omega)) _)
      clear hb4 B3
      go_wp2_with fail
      go_at_call 8
      (with_reducible refine (better_bad _ _ _ _ _ _ _ _ _ (by rw [H3.out, Bool.and_false])).mono ?_)
      rintro e w5 ⟨rfl, hb5⟩
      obtain ⟨hc, hf⟩ := bcell hb5
      have a_0_5 : w5.cell? ⟨w.heap.size, 0, none⟩ = some (.int .i64 r) := by rw [hc _ _ z_a_4.out]; go_simp
      have a_1_5 : w5.cell? ⟨w.heap.size, 1, none⟩ = some (.int .i64 c) := by rw [hc _ _ z_a_4.out]; go_simp
      have a_2_5 : w5.cell? ⟨w.heap.size, 2, none⟩ = some (.int .i64 b) := by rw [hc _ _ z_a_4.out]; go_simp
      have a_3_5 : w5.cell? ⟨w.heap.size, 3, none⟩ = some (.int .i64 p) := by rw [hc _ _ z_a_4.out]; go_simp
      have b_0_5 : w5.cell? ⟨w.heap.size + 1, 0, none⟩ = some (.int .i64 r) := by rw [hc _ _ z_b_4.out]; go_simp
      have b_1_5 : w5.cell? ⟨w.heap.size + 1, 1, none⟩ = some (.int .i64 c) := by rw [hc _ _ z_b_4.out]; go_simp
      have b_2_5 : w5.cell? ⟨w.heap.size + 1, 2, none⟩ = some (.int .i64 b2) := by rw [hc _ _ z_b_4.out]; go_simp
      have b_3_5 : w5.cell? ⟨w.heap.size + 1, 3, none⟩ = some (.int .i64 p2) := by rw [hc _ _ z_b_4.out]; go_simp
      have c_0_5 : w5.cell? ⟨w.heap.size + 1 + 1, 0, none⟩ = some (.int .i64 r3) := by rw [hc _ _ z_c_4.out]; go_simp
      have c_1_5 : w5.cell? ⟨w.heap.size + 1 + 1, 1, none⟩ = some (.int .i64 c3) := by rw [hc _ _ z_c_4.out]; go_simp
      have c_2_5 : w5.cell? ⟨w.heap.size + 1 + 1, 2, none⟩ = some (.int .i64 b3) := by rw [hc _ _ z_c_4.out]; go_simp
      have c_3_5 : w5.cell? ⟨w.heap.size + 1 + 1, 3, none⟩ = some (.int .i64 p3) := by rw [hc _ _ z_c_4.out]; go_simp
      clear hc hf a_0_4 a_1_4 a_2_4 a_3_4 b_0_4 b_1_4 b_2_4 b_3_4 c_0_4 c_1_4 c_2_4 c_3_4
      have z_a_5 : Hid (w.heap.size < w5.heap.size) := Lib.hid (by have h1 := z_a_4.out; have h2 := hb5.size; first | (with_reducible exact Nat.lt_of_lt_of_le h1 h2) | omega | (simp at h2; omega))
      clear z_a_4
      have z_b_5 : Hid (w.heap.size + 1 < w5.heap.size) := Lib.hid (by have h1 := z_b_4.out; have h2 := hb5.size; first | (with_reducible exact Nat.lt_of_lt_of_le h1 h2) | omega | (simp at h2; omega))
      clear z_b_4
      have z_c_5 : Hid (w.heap.size + 1 + 1 < w5.heap.size) := Lib.hid (by have h1 := z_c_4.out; have h2 := hb5.size; first | (with_reducible exact Nat.lt_of_lt_of_le h1 h2) | omega | (simp at h2; omega))
      clear z_c_4
      have B5 : Below w.heap.size w w5 := by
        refine Below.trans ?_ (hb5.mono (by first | with_reducible exact B4.size | (have := B4.size; simp; omega)))
        repeat (first | with_reducible assumption | with_reducible exact Below.refl _ _ | apply Below.drew | refine Below.setCell ?_ (by first | omega | (simp; done) | (simp; omega)) _ | refine Below.alloc ?_ (by first | omega | (simp; done) | (simp; omega)) _)
      clear hb5 B4
      go_wp2_with fail
      go_ret
      exact ⟨rfl, B5⟩
    · go_wp2_with fail
      go_at_call 8
      (with_reducible refine (better_good _ _ _ _ _ _ _ _ _ H2.out H3.out).mono ?_)
      rintro e w4 ⟨rfl, hb4⟩
      obtain ⟨hc, hf⟩ := bcell hb4
      have a_0_4 : w4.cell? ⟨w.heap.size, 0, none⟩ = some (.int .i64 r) := by rw [hc _ _ z_a_3.out]; go_simp
      have a_1_4 : w4.cell? ⟨w.heap.size, 1, none⟩ = some (.int .i64 c) := by rw [hc _ _ z_a_3.out]; go_simp
      have a_2_4 : w4.cell? ⟨w.heap.size, 2, none⟩ = some (.int .i64 b) := by rw [hc _ _ z_a_3.out]; go_simp
      have a_3_4 : w4.cell? ⟨w.heap.size, 3, none⟩ = some (.int .i64 p) := by rw [hc _ _ z_a_3.out]; go_simp
      have b_0_4 : w4.cell? ⟨w.heap.size + 1, 0, none⟩ = some (.int .i64 r) := by rw [hc _ _ z_b_3.out]; go_simp
      have b_1_4 : w4.cell? ⟨w.heap.size + 1, 1, none⟩ = some (.int .i64 c) := by rw [hc _ _ z_b_3.out]; go_simp
      have b_2_4 : w4.cell? ⟨w.heap.size + 1, 2, none⟩ = some (.int .i64 b2) := by rw [hc _ _ z_b_3.out]; go_simp
      have b_3_4 : w4.cell? ⟨w.heap.size + 1, 3, none⟩ = some (.int .i64 p2) := by rw [hc _ _ z_b_3.out]; go_simp
      have c_0_4 : w4.cell? ⟨w.heap.size + 1 + 1, 0, none⟩ = some (.int .i64 r3) := by rw [hc _ _ z_c_3.out]; go_simp
      have c_1_4 : w4.cell? ⟨w.heap.size + 1 + 1, 1, none⟩ = some (.int .i64 c3) := by rw [hc _ _ z_c_3.out]; go_simp
      have c_2_4 : w4.cell? ⟨w.heap.size + 1 + 1, 2, none⟩ = some (.int .i64 b3) := by rw [hc _ _ z_c_3.out]; go_simp
      have c_3_4 : w4.cell? ⟨w.heap.size + 1 + 1, 3, none⟩ = some (.int .i64 p3) := by rw [hc _ _ z_c_3.out]; go_simp
      clear hc hf a_0_3 a_1_3 a_2_3 a_3_3 b_0_3 b_1_3 b_2_3 b_3_3 c_0_3 c_1_3 c_2_3 c_3_3
      have z_a_4 : Hid (w.heap.size < w4.heap.size) := Lib.hid (by have h1 := z_a_3.out; have h2 := hb4.size; first | (with_reducible exact Nat.lt_of_lt_of_le h1 h2) | omega | (simp at h2; omega))
      clear z_a_3
      have z_b_4 : Hid (w.heap.size + 1 < w4.heap.size) := Lib.hid (by have h1 := z_b_3.out; have h2 := hb4.size; first | (with_reducible exact Nat.lt_of_lt_of_le h1 h2) | omega | (simp at h2; omega))
      clear z_b_3
      have z_c_4 : Hid (w.heap.size + 1 + 1 < w4.heap.size) := Lib.hid (by have h1 := z_c_3.out; have h2 := hb4.size; first | (with_reducible exact Nat.lt_of_lt_of_le h1 h2) | omega | (simp at h2; omega))
      clear z_c_3
      have B4 : Below w.heap.size w w4 := by
        refine Below.trans ?_ (hb4.mono (by first | with_reducible exact B3.size | (have := B3.size; simp; omega)))
        repeat (first | with_reducible assumption | with_reducible exact Below.refl _ _ | apply Below.drew | refine Below.setCell ?_ (by first | omega | (simp; done) | (simp; omega)) _ | refine Below.alloc ?_ (by first | omega | (simp; done) | (simp; omega)) _)
      clear hb4 B3
      rw [Hbc.out]
      go_wp2_with fail
      go_at_call 8
      (with_reducible refine (better_good _ _ _ _ _ _ _ _ _ H.out H3.out).mono ?_)
      rintro e w5 ⟨rfl, hb5⟩
      obtain ⟨hc, hf⟩ := bcell hb5
      have a_0_5 : w5.cell? ⟨w.heap.size, 0, none⟩ = some (.int .i64 r) := by rw [hc _ _ z_a_4.out]; go_simp
      have a_1_5 : w5.cell? ⟨w.heap.size, 1, none⟩ = some (.int .i64 c) := by rw [hc _ _ z_a_4.out]; go_simp
      have a_2_5 : w5.cell? ⟨w.heap.size, 2, none⟩ = some (.int .i64 b) := by rw [hc _ _ z_a_4.out]; go_simp
      have a_3_5 : w5.cell? ⟨w.heap.size, 3, none⟩ = some (.int .i64 p) := by rw [hc _ _ z_a_4.out]; go_simp
      have b_0_5 : w5.cell? ⟨w.heap.size + 1, 0, none⟩ = some (.int .i64 r) := by rw [hc _ _ z_b_4.out]; go_simp
      have b_1_5 : w5.cell? ⟨w.heap.size + 1, 1, none⟩ = some (.int .i64 c) := by rw [hc _ _ z_b_4.out]; go_simp
      have b_2_5 : w5.cell? ⟨w.heap.size + 1, 2, none⟩ = some (.int .i64 b2) := by rw [hc _ _ z_b_4.out]; go_simp
      have b_3_5 : w5.cell? ⟨w.heap.size + 1, 3, none⟩ = some (.int .i64 p2) := by rw [hc _ _ z_b_4.out]; go_simp
      have c_0_5 : w5.cell? ⟨w.heap.size + 1 + 1, 0, none⟩ = some (.int .i64 r3) := by rw [hc _ _ z_c_4.out]; go_simp
      have c_1_5 : w5.cell? ⟨w.heap.size + 1 + 1, 1, none⟩ = some (.int .i64 c3) := by rw [hc _ _ z_c_4.out]; go_simp
      have c_2_5 : w5.cell? ⟨w.heap.size + 1 + 1, 2, none⟩ = some (.int .i64 b3) := by rw [hc _ _ z_c_4.out]; go_simp
      have c_3_5 : w5.cell? ⟨w.heap.size + 1 + 1, 3, none⟩ = some (.int .i64 p3) := by rw [hc _ _ z_c_4.out]; go_simp
      clear hc hf a_0_4 a_1_4 a_2_4 a_3_4 b_0_4 b_1_4 b_2_4 b_3_4 c_0_4 c_1_4 c_2_4 c_3_4
      have z_a_5 : Hid (w.heap.size < w5.heap.size) := Lib.hid (by have h1 := z_a_4.out; have h2 := hb5.size; first | (with_reducible exact Nat.lt_of_lt_of_le h1 h2) | omega | (simp at h2; omega))
      clear z_a_4
      have z_b_5 : Hid (w.heap.size + 1 < w5.heap.size) := Lib.hid (by have h1 := z_b_4.out; have h2 := hb5.size; first | (with_reducible exact Nat.lt_of_lt_of_le h1 h2) | omega | (simp at h2; omega))
      clear z_b_4
      have z_c_5 : Hid (w.heap.size + 1 + 1 < w5.heap.size) := Lib.hid (by have h1 := z_c_4.out; have h2 := hb5.size; first | (with_reducible exact Nat.lt_of_lt_of_le h1 h2) | omega | (simp at h2; omega))
      clear z_c_4
      have B5 : Below w.heap.size w w5 := by
        refine Below.trans ?_ (hb5.mono (by first | with_reducible exact B4.size | (have := B4.size; simp; omega)))
        repeat (first | with_reducible assumption | with_reducible exact Below.refl _ _ | apply Below.drew | refine Below.setCell ?_ (by first | omega | (simp; done) | (simp; omega)) _ | refine Below.alloc ?_ (by first | omega | (simp; done) | (simp; omega)) _)
      clear hb5 B4
      rw [Hac.out]
      go_wp2_with fail
      go_ret
      exact ⟨rfl, B5⟩
  · have Hd' := Hd.out
    go_wp2_with fail
    go_at_call 14
    (with_reducible refine (alive_any _).mono ?_)
    rintro e w3 ⟨rfl, hb3⟩
    obtain ⟨hc, hf⟩ := bcell hb3
    have a_0_3 : w3.cell? ⟨w.heap.size, 0, none⟩ = some (.int .i64 r) := by rw [hc _ _ z_a_2.out]; go_simp
    have a_1_3 : w3.cell? ⟨w.heap.size, 1, none⟩ = some (.int .i64 c) := by rw [hc _ _ z_a_2.out]; go_simp
    have a_2_3 : w3.cell? ⟨w.heap.size, 2, none⟩ = some (.int .i64 b) := by rw [hc _ _ z_a_2.out]; go_simp
    have a_3_3 : w3.cell? ⟨w.heap.size, 3, none⟩ = some (.int .i64 p) := by rw [hc _ _ z_a_2.out]; go_simp
    have b_0_3 : w3.cell? ⟨w.heap.size + 1, 0, none⟩ = some (.int .i64 r) := by rw [hc _ _ z_b_2.out]; go_simp
    have b_1_3 : w3.cell? ⟨w.heap.size + 1, 1, none⟩ = some (.int .i64 c) := by rw [hc _ _ z_b_2.out]; go_simp
    have b_2_3 : w3.cell? ⟨w.heap.size + 1, 2, none⟩ = some (.int .i64 b2) := by rw [hc _ _ z_b_2.out]; go_simp
    have b_3_3 : w3.cell? ⟨w.heap.size + 1, 3, none⟩ = some (.int .i64 p2) := by rw [hc _ _ z_b_2.out]; go_simp
    have c_0_3 : w3.cell? ⟨w.heap.size + 1 + 1, 0, none⟩ = some (.int .i64 r3) := by rw [hc _ _ z_c_2.out]; go_simp
    have c_1_3 : w3.cell? ⟨w.heap.size + 1 + 1, 1, none⟩ = some (.int .i64 c3) := by rw [hc _ _ z_c_2.out]; go_simp
    have c_2_3 : w3.cell? ⟨w.heap.size + 1 + 1, 2, none⟩ = some (.int .i64 b3) := by rw [hc _ _ z_c_2.out]; go_simp
    have c_3_3 : w3.cell? ⟨w.heap.size + 1 + 1, 3, none⟩ = some (.int .i64 p3) := by rw [hc _ _ z_c_2.out]; go_simp
    clear hc hf a_0_2 a_1_2 a_2_2 a_3_2 b_0_2 b_1_2 b_2_2 b_3_2 c_0_2 c_1_2 c_2_2 c_3_2
    have z_a_3 : Hid (w.heap.size < w3.heap.size) := Lib.hid (by have h1 := z_a_2.out; have h2 := hb3.size; first | (with_reducible exact Nat.lt_of_lt_of_le h1 h2) | omega | (simp at h2; omega))
    clear z_a_2
    have z_b_3 : Hid (w.heap.size + 1 < w3.heap.size) := Lib.hid (by have h1 := z_b_2.out; have h2 := hb3.size; first | (with_reducible exact Nat.lt_of_lt_of_le h1 h2) | omega | (simp at h2; omega))
    clear z_b_2
    have z_c_3 : Hid (w.heap.size + 1 + 1 < w3.heap.size) := Lib.hid (by have h1 := z_c_2.out; have h2 := hb3.size; first | (with_reducible exact Nat.lt_of_lt_of_le h1 h2) | omega | (simp at h2; omega))
    clear z_c_2
    have B3 : Below w.heap.size w w3 := by
      refine Below.trans ?_ (hb3.mono (by first | with_reducible exact B2.size | (have := B2.size; simp; omega)))
      repeat (first | with_reducible assumption | with_reducible exact Below.refl _ _ | apply Below.drew | refine Below.setCell ?_ (by first | omega | (simp; done) | (simp; omega)) _ | refine Below.alloc ?_ (by first | omega | (simp; done) | (simp; omega)) _)
    clear hb3 B2
    cases x
    · go_wp2_with fail
      go_at_call 8
      (with_reducible refine (better_bad _ _ _ _ _ _ _ _ _ (by rw [H3.out, Bool.and_false])).mono ?_)
      rintro e w4 ⟨rfl, hb4⟩
      obtain ⟨hc, hf⟩ := bcell hb4
      have a_0_4 : w4.cell? ⟨w.heap.size, 0, none⟩ = some (.int .i64 r) := by rw [hc _ _ z_a_3.out]; go_simp
      have a_1_4 : w4.cell? ⟨w.heap.size, 1, none⟩ = some (.int .i64 c) := by rw [hc _ _ z_a_3.out]; go_simp
      have a_2_4 : w4.cell? ⟨w.heap.size, 2, none⟩ = some (.int .i64 b) := by rw [hc _ _ z_a_3.out]; go_simp
      have a_3_4 : w4.cell? ⟨w.heap.size, 3, none⟩ = some (.int .i64 p) := by rw [hc _ _ z_a_3.out]; go_simp
      have b_0_4 : w4.cell? ⟨w.heap.size + 1, 0, none⟩ = some (.int .i64 r) := by rw [hc _ _ z_b_3.out]; go_simp
      have b_1_4 : w4.cell? ⟨w.heap.size + 1, 1, none⟩ = some (.int .i64 c) := by rw [hc _ _ z_b_3.out]; go_simp
      have b_2_4 : w4.cell? ⟨w.heap.size + 1, 2, none⟩ = some (.int .i64 b2) := by rw [hc _ _ z_b_3.out]; go_simp
      have b_3_4 : w4.cell? ⟨w.heap.size + 1, 3, none⟩ = some (.int .i64 p2) := by rw [hc _ _ z_b_3.out]; go_simp
      have c_0_4 : w4.cell? ⟨w.heap.size + 1 + 1, 0, none⟩ = some (.int .i64 r3) := by rw [hc _ _ z_c_3.out]; go_simp
      have c_1_4 : w4.cell? ⟨w.heap.size + 1 + 1, 1, none⟩ = some (.int .i64 c3) := by rw [hc _ _ z_c_3.out]; go_simp
      have c_2_4 : w4.cell? ⟨w.heap.size + 1 + 1, 2, none⟩ = some (.int .i64 b3) := by rw [hc _ _ z_c_3.out]; go_simp
      have c_3_4 : w4.cell? ⟨w.heap.size + 1 + 1, 3, none⟩ = some (.int .i64 p3) := by rw [hc _ _ z_c_3.out]; go_simp
      clear hc hf a_0_3 a_1_3 a_2_3 a_3_3 b_0_3 b_1_3 b_2_3 b_3_3 c_0_3 c_1_3 c_2_3 c_3_3
      have z_a_4 : Hid (w.heap.size < w4.heap.size) := Lib.hid (by have h1 := z_a_3.out; have h2 := hb4.size; first | (with_reducible exact Nat.lt_of_lt_of_le h1 h2) | omega | (simp at h2; omega))
      clear z_a_3
      have z_b_4 : Hid (w.heap.size + 1 < w4.heap.size) := Lib.hid (by have h1 := z_b_3.out; have h2 := hb4.size; first | (with_reducible exact Nat.lt_of_lt_of_le h1 h2) | omega | (simp at h2; omega))
      clear z_b_3
      have z_c_4 : Hid (w.heap.size + 1 + 1 < w4.heap.size) := Lib.hid (by have h1 := z_c_3.out; have h2 := hb4.size; first | (with_reducible exact Nat.lt_of_lt_of_le h1 h2) | omega | (simp at h2; omega))
      clear z_c_3
      have B4 : Below w.heap.size w w4 := by
        refine Below.trans ?_ (hb4.mono (by first | with_reducible exact B3.size | (have := B3.size; simp; omega)))
        repeat (first | with_reducible assumption | with_reducible exact Below.refl _ _ | apply Below.drew | refine Below.setCell ?_ (by first | omega | (simp; done) | (simp; omega)) _ | refine Below.alloc ?_ (by first | omega | (simp; done) | (simp; omega)) _)
      clear hb4 B3
      go_wp2_with fail
      go_at_call 8
      (with_reducible refine (better_bad _ _ _ _ _ _ _ _ _ (by rw [H3.out, Bool.and_false])).mono ?_)
      rintro e w5 ⟨rfl, hb5⟩
      obtain ⟨hc, hf⟩ := bcell hb5
      have a_0_5 : w5.cell? ⟨w.heap.size, 0, none⟩ = some (.int .i64 r) := by rw [hc _ _ z_a_4.out]; go_simp
      have a_1_5 : w5.cell? ⟨w.heap.size, 1, none⟩ = some (.int .i64 c) := by rw [hc _ _ z_a_4.out]; go_simp
      have a_2_5 : w5.cell? ⟨w.heap.size, 2, none⟩ = some (.int .i64 b) := by rw [hc _ _ z_a_4.out]; go_simp
      have a_3_5 : w5.cell? ⟨w.heap.size, 3, none⟩ = some (.int .i64 p) := by rw [hc _ _ z_a_4.out]; go_simp
      have b_0_5 : w5.cell? ⟨w.heap.size + 1, 0, none⟩ = some (.int .i64 r) := by rw [hc _ _ z_b_4.out]; go_simp
      have b_1_5 : w5.cell? ⟨w.heap.size + 1, 1, none⟩ = some (.int .i64 c) := by rw [hc _ _ z_b_4.out]; go_simp
      have b_2_5 : w5.cell? ⟨w.heap.size + 1, 2, none⟩ = some (.int .i64 b2) := by rw [hc _ _ z_b_4.out]; go_simp
      have b_3_5 : w5.cell? ⟨w.heap.size + 1, 3, none⟩ = some (.int .i64 p2) := by rw [hc _ _ z_b_4.out]; go_simp
      have c_0_5 : w5.cell? ⟨w.heap.size + 1 + 1, 0, none⟩ = some (.int .i64 r3) := by rw [hc _ _ z_c_4.out]; go_simp
      have c_1_5 : w5.cell? ⟨w.heap.size + 1 + 1, 1, none⟩ = some (.int .i64 c3) := by rw [hc _ _ z_c_4.out]; go_simp
      have c_2_5 : w5.cell? ⟨w.heap.size + 1 + 1, 2, none⟩ = some (.int .i64 b3) := by rw [hc _ _ z_c_4.out]; go_simp
      have c_3_5 : w5.cell? ⟨w.heap.size + 1 + 1, 3, none⟩ = some (.int .i64 p3) := by rw [hc _ _ z_c_4.out]; go_simp
      clear hc hf a_0_4 a_1_4 a_2_4 a_3_4 b_0_4 b_1_4 b_2_4 b_3_4 c_0_4 c_1_4 c_2_4 c_3_4
      have z_a_5 : Hid (w.heap.size < w5.heap.size) := Lib.hid (by have h1 := z_a_4.out; have h2 := hb5.size; first | (with_reducible exact Nat.lt_of_lt_of_le h1 h2) | omega | (simp at h2; omega))
      clear z_a_4
      have z_b_5 : Hid (w.heap.size + 1 < w5.heap.size) := Lib.hid (by have h1 := z_b_4.out; have h2 := hb5.size; first | (with_reducible exact Nat.lt_of_lt_of_le h1 h2) | omega | (simp at h2; omega))
      clear z_b_4
      have z_c_5 : Hid (w.heap.size + 1 + 1 < w5.heap.size) := Lib.hid (by have h1 := z_c_4.out; have h2 := hb5.size; first | (with_reducible exact Nat.lt_of_lt_of_le h1 h2) | omega | (simp at h2; omega))
      clear z_c_4
      have B5 : Below w.heap.size w w5 := by
        refine Below.trans ?_ (hb5.mono (by first | with_reducible exact B4.size | (have := B4.size; simp; omega)))
        repeat (first | with_reducible assumption | with_reducible exact Below.refl _ _ | apply Below.drew | refine Below.setCell ?_ (by first | omega | (simp; done) | (simp; omega)) _ | refine Below.alloc ?_ (by first | omega | (simp; done) | (simp; omega)) _)
      clear hb5 B4
      go_wp2_with fail
      go_ret
      exact ⟨rfl, B5⟩
    · go_wp2_with fail
      go_at_call 8
      (with_reducible refine (better_good _ _ _ _ _ _ _ _ _ H2.out H3.out).mono ?_)
      rintro e w4 ⟨rfl, hb4⟩
      obtain ⟨hc, hf⟩ := bcell hb4
      have a_0_4 : w4.cell? ⟨w.heap.size, 0, none⟩ = some (.int .i64 r) := by rw [hc _ _ z_a_3.out]; go_simp
      have a_1_4 : w4.cell? ⟨w.heap.size, 1, none⟩ = some (.int .i64 c) := by rw [hc _ _ z_a_3.out]; go_simp
      have a_2_4 : w4.cell? ⟨w.heap.size, 2, none⟩ = some (.int .i64 b) := by rw [hc _ _ z_a_3.out]; go_simp
      have a_3_4 : w4.cell? ⟨w.heap.size, 3, none⟩ = some (.int .i64 p) := by rw [hc _ _ z_a_3.out]; go_simp
      have b_0_4 : w4.cell? ⟨w.heap.size + 1, 0, none⟩ = some (.int .i64 r) := by rw [hc _ _ z_b_3.out]; go_simp
      have b_1_4 : w4.cell? ⟨w.heap.size + 1, 1, none⟩ = some (.int .i64 c) := by rw [hc _ _ z_b_3.out]; go_simp
      have b_2_4 : w4.cell? ⟨w.heap.size + 1, 2, none⟩ = some (.int .i64 b2) := by rw [hc _ _ z_b_3.out]; go_simp
      have b_3_4 : w4.cell? ⟨w.heap.size + 1, 3, none⟩ = some (.int .i64 p2) := by rw [hc _ _ z_b_3.out]; go_simp
      have c_0_4 : w4.cell? ⟨w.heap.size + 1 + 1, 0, none⟩ = some (.int .i64 r3) := by rw [hc _ _ z_c_3.out]; go_simp
      have c_1_4 : w4.cell? ⟨w.heap.size + 1 + 1, 1, none⟩ = some (.int .i64 c3) := by rw [hc _ _ z_c_3.out]; go_simp
      have c_2_4 : w4.cell? ⟨w.heap.size + 1 + 1, 2, none⟩ = some (.int .i64 b3) := by rw [hc _ _ z_c_3.out]; go_simp
      have c_3_4 : w4.cell? ⟨w.heap.size + 1 + 1, 3, none⟩ = some (.int .i64 p3) := by rw [hc _ _ z_c_3.out]; go_simp
      clear hc hf a_0_3 a_1_3 a_2_3 a_3_3 b_0_3 b_1_3 b_2_3 b_3_3 c_0_3 c_1_3 c_2_3 c_3_3
      have z_a_4 : Hid (w.heap.size < w4.heap.size) := Lib.hid (by have h1 := z_a_3.out; have h2 := hb4.size; first | (with_reducible exact Nat.lt_of_lt_of_le h1 h2) | omega | (simp at h2; omega))
      clear z_a_3
      have z_b_4 : Hid (w.heap.size + 1 < w4.heap.size) := Lib.hid (by have h1 := z_b_3.out; have h2 := hb4.size; first | (with_reducible exact Nat.lt_of_lt_of_le h1 h2) | omega | (simp at h2; omega))
      clear z_b_3
      have z_c_4 : Hid (w.heap.size + 1 + 1 < w4.heap.size) := Lib.hid (by have h1 := z_c_3.out; have h2 := hb4.size; first | (with_reducible exact Nat.lt_of_lt_of_le h1 h2) | omega | (simp at h2; omega))
      clear z_c_3
      have B4 : Below w.heap.size w w4 := by
        refine Below.trans ?_ (hb4.mono (by first | with_reducible exact B3.size | (have := B3.size; simp; omega)))
        repeat (first | with_reducible assumption | with_reducible exact Below.refl _ _ | apply Below.drew | refine Below.setCell ?_ (by first | omega | (simp; done) | (simp; omega)) _ | refine Below.alloc ?_ (by first | omega | (simp; done) | (simp; omega)) _)
      clear hb4 B3
      rw [Hbc.out]
      go_wp2_with fail
      go_at_call 8
      (with_reducible refine (better_good _ _ _ _ _ _ _ _ _ H.out H3.out).mono ?_)
      rintro e w5 ⟨rfl, hb5⟩
      obtain ⟨hc, hf⟩ := bcell hb5
      have a_0_5 : w5.cell? ⟨w.heap.size, 0, none⟩ = some (.int .i64 r) := by rw [hc _ _ z_a_4.out]; go_simp
      have a_1_5 : w5.cell? ⟨w.heap.size, 1, none⟩ = some (.int .i64 c) := by rw [hc _ _ z_a_4.out]; go_simp
      have a_2_5 : w5.cell? ⟨w.heap.size, 2, none⟩ = some (.int .i64 b) := by rw [hc _ _ z_a_4.out]; go_simp
      have a_3_5 : w5.cell? ⟨w.heap.size, 3, none⟩ = some (.int .i64 p) := by rw [hc _ _ z_a_4.out]; go_simp
      have b_0_5 : w5.cell? ⟨w.heap.size + 1, 0, none⟩ = some (.int .i64 r) := by rw [hc _ _ z_b_4.out]; go_simp
      have b_1_5 : w5.cell? ⟨w.heap.size + 1, 1, none⟩ = some (.int .i64 c) := by rw [hc _ _ z_b_4.out]; go_simp
      have b_2_5 : w5.cell? ⟨w.heap.size + 1, 2, none⟩ = some (.int .i64 b2) := by rw [hc _ _ z_b_4.out]; go_simp
      have b_3_5 : w5.cell? ⟨w.heap.size + 1, 3, none⟩ = some (.int .i64 p2) := by rw [hc _ _ z_b_4.out]; go_simp
      have c_0_5 : w5.cell? ⟨w.heap.size + 1 + 1, 0, none⟩ = some (.int .i64 r3) := by rw [hc _ _ z_c_4.out]; go_simp
      have c_1_5 : w5.cell? ⟨w.heap.size + 1 + 1, 1, none⟩ = some (.int .i64 c3) := by rw [hc _ _ z_c_4.out]; go_simp
      have c_2_5 : w5.cell? ⟨w.heap.size + 1 + 1, 2, none⟩ = some (.int .i64 b3) := by rw [hc _ _ z_c_4.out]; go_simp
      have c_3_5 : w5.cell? ⟨w.heap.size + 1 + 1, 3, none⟩ = some (.int .i64 p3) := by rw [hc _ _ z_c_4.out]; go_simp
      clear hc hf a_0_4 a_1_4 a_2_4 a_3_4 b_0_4 b_1_4 b_2_4 b_3_4 c_0_4 c_1_4 c_2_4 c_3_4
      have z_a_5 : Hid (w.heap.size < w5.heap.size) := Lib.hid (by have h1 := z_a_4.out; have h2 := hb5.size; first | (with_reducible exact Nat.lt_of_lt_of_le h1 h2) | omega | (simp at h2; omega))
      clear z_a_4
      have z_b_5 : Hid (w.heap.size + 1 < w5.heap.size) := Lib.hid (by have h1 := z_b_4.out; have h2 := hb5.size; first | (with_reducible exact Nat.lt_of_lt_of_le h1 h2) | omega | (simp at h2; omega))
      clear z_b_4
      have z_c_5 : Hid (w.heap.size + 1 + 1 < w5.heap.size) := Lib.hid (by have h1 := z_c_4.out; have h2 := hb5.size; first | (with_reducible exact Nat.lt_of_lt_of_le h1 h2) | omega | (simp at h2; omega))
      clear z_c_4
      have B5 : Below w.heap.size w w5 := by
        refine Below.trans ?_ (hb5.mono (by first | with_reducible exact B4.size | (have := B4.size; simp; omega)))
        repeat (first | with_reducible assumption | with_reducible exact Below.refl _ _ | apply Below.drew | refine Below.setCell ?_ (by first | omega | (simp; done) | (simp; omega)) _ | refine Below.alloc ?_ (by first | omega | (simp; done) | (simp; omega)) _)
      clear hb5 B4
      rw [Hac.out]
      cases bc <;> cases ac <;> first | (cases (Ht.out rfl); done) | (go_wp2_with fail; go_ret; exact ⟨rfl, B5⟩)

set_option maxHeartbeats 4000000 in
theorem order_apart3 (r c b p p2 r3 c3 b3 p3 : Int) (w : World) (x ab bc ac : Bool) (h : okV r c b p = true) (h2 : okV r c b p2 = true) (h3 : okV r3 c3 b3 p3 = x) (hd : (p == p2) = false) (hab : betB r c b p r c b p2 = ab) (hba : betB r c b p2 r c b p = !ab) (hbc : betB r c b p2 r3 c3 b3 p3 = bc) (hac : betB r c b p r3 c3 b3 p3 = ac) (ht : (ab && bc) = true → ac = true) :
    Calls Try.prog 4 #[vv r c b p, vv r c b p2, vv r3 c3 b3 p3] w fun e w' => e = .returned (.bool true) ∧ Below w.heap.size w w' := by
  have H := Lib.hid h
  have H2 := Lib.hid h2
  have H3 := Lib.hid h3
  have Hab := Lib.hid hab
  have Hba := Lib.hid hba
  have Hbc := Lib.hid hbc
  have Hac := Lib.hid hac
  have Ht := Lib.hid ht
  have Hd := Lib.hid hd
  clear h h2 h3 hab hba hbc hac ht hd
  go_enter Try.func4, Try.ntmps4
  go_wp2_with fail
  go_at_call 8
  (with_reducible refine (better_good _ _ _ _ _ _ _ _ _ H.out H2.out).mono ?_)
  rintro e w1 ⟨rfl, hb1⟩
  obtain ⟨hc, hf⟩ := bcell hb1
  have a_0_1 : w1.cell? ⟨w.heap.size, 0, none⟩ = some (.int .i64 r) := by rw [hc _ _ (by first | with_reducible assumption | omega | (simp; done) | (simp; omega))]; go_simp
  have a_1_1 : w1.cell? ⟨w.heap.size, 1, none⟩ = some (.int .i64 c) := by rw [hc _ _ (by first | with_reducible assumption | omega | (simp; done) | (simp; omega))]; go_simp
  have a_2_1 : w1.cell? ⟨w.heap.size, 2, none⟩ = some (.int .i64 b) := by rw [hc _ _ (by first | with_reducible assumption | omega | (simp; done) | (simp; omega))]; go_simp
  have a_3_1 : w1.cell? ⟨w.heap.size, 3, none⟩ = some (.int .i64 p) := by rw [hc _ _ (by first | with_reducible assumption | omega | (simp; done) | (simp; omega))]; go_simp
  have b_0_1 : w1.cell? ⟨w.heap.size + 1, 0, none⟩ = some (.int .i64 r) := by rw [hc _ _ (by first | with_reducible assumption | omega | (simp; done) | (simp; omega))]; go_simp
  have b_1_1 : w1.cell? ⟨w.heap.size + 1, 1, none⟩ = some (.int .i64 c) := by rw [hc _ _ (by first | with_reducible assumption | omega | (simp; done) | (simp; omega))]; go_simp
  have b_2_1 : w1.cell? ⟨w.heap.size + 1, 2, none⟩ = some (.int .i64 b) := by rw [hc _ _ (by first | with_reducible assumption | omega | (simp; done) | (simp; omega))]; go_simp
  have b_3_1 : w1.cell? ⟨w.heap.size + 1, 3, none⟩ = some (.int .i64 p2) := by rw [hc _ _ (by first | with_reducible assumption | omega | (simp; done) | (simp; omega))]; go_simp
  have c_0_1 : w1.cell? ⟨w.heap.size + 1 + 1, 0, none⟩ = some (.int .i64 r3) := by rw [hc _ _ (by first | with_reducible assumption | omega | (simp; done) | (simp; omega))]; go_simp
  have c_1_1 : w1.cell? ⟨w.heap.size + 1 + 1, 1, none⟩ = some (.int .i64 c3) := by rw [hc _ _ (by first | with_reducible assumption | omega | (simp; done) | (simp; omega))]; go_simp
  have c_2_1 : w1.cell? ⟨w.heap.size + 1 + 1, 2, none⟩ = some (.int .i64 b3) := by rw [hc _ _ (by first | with_reducible assumption | omega | (simp; done) | (simp; omega))]; go_simp
  have c_3_1 : w1.cell? ⟨w.heap.size + 1 + 1, 3, none⟩ = some (.int .i64 p3) := by rw [hc _ _ (by first | with_reducible assumption | omega | (simp; done) | (simp; omega))]; go_simp
  clear hc hf
  have z_a_1 : Hid (w.heap.size < w1.heap.size) := Lib.hid (by have h2 := hb1.size; first | omega | (simp at h2; omega))
  have z_b_1 : Hid (w.heap.size + 1 < w1.heap.size) := Lib.hid (by have h2 := hb1.size; first | omega | (simp at h2; omega))
  have z_c_1 : Hid (w.heap.size + 1 + 1 < w1.heap.size) := Lib.hid (by have h2 := hb1.size; first | omega | (simp at h2; omega))
  have B1 : Below w.heap.size w w1 := by
    refine Below.trans ?_ (hb1.mono (by first | with_reducible exact Nat.le_refl _ | (simp; done) | (simp; omega)))
    repeat (first | with_reducible assumption | with_reducible exact Below.refl _ _ | apply Below.drew | refine Below.setCell ?_ (by first | omega | (simp; done) | (simp; omega)) _ | refine Below.alloc ?_ (by first | omega | (simp; done) | (simp; omega)) _)
  clear hb1
  rw [Hab.out]
  go_wp2_with fail
  go_at_call 8
  (with_reducible refine (better_good _ _ _ _ _ _ _ _ _ H2.out H.out).mono ?_)
  rintro e w2 ⟨rfl, hb2⟩
  obtain ⟨hc, hf⟩ := bcell hb2
  have a_0_2 : w2.cell? ⟨w.heap.size, 0, none⟩ = some (.int .i64 r) := by rw [hc _ _ z_a_1.out]; go_simp
  have a_1_2 : w2.cell? ⟨w.heap.size, 1, none⟩ = some (.int .i64 c) := by rw [hc _ _ z_a_1.out]; go_simp
  have a_2_2 : w2.cell? ⟨w.heap.size, 2, none⟩ = some (.int .i64 b) := by rw [hc _ _ z_a_1.out]; go_simp
  have a_3_2 : w2.cell? ⟨w.heap.size, 3, none⟩ = some (.int .i64 p) := by rw [hc _ _ z_a_1.out]; go_simp
  have b_0_2 : w2.cell? ⟨w.heap.size + 1, 0, none⟩ = some (.int .i64 r) := by rw [hc _ _ z_b_1.out]; go_simp
  have b_1_2 : w2.cell? ⟨w.heap.size + 1, 1, none⟩ = some (.int .i64 c) := by rw [hc _ _ z_b_1.out]; go_simp
  have b_2_2 : w2.cell? ⟨w.heap.size + 1, 2, none⟩ = some (.int .i64 b) := by rw [hc _ _ z_b_1.out]; go_simp
  have b_3_2 : w2.cell? ⟨w.heap.size + 1, 3, none⟩ = some (.int .i64 p2) := by rw [hc _ _ z_b_1.out]; go_simp
  have c_0_2 : w2.cell? ⟨w.heap.size + 1 + 1, 0, none⟩ = some (.int .i64 r3) := by rw [hc _ _ z_c_1.out]; go_simp
  have c_1_2 : w2.cell? ⟨w.heap.size + 1 + 1, 1, none⟩ = some (.int .i64 c3) := by rw [hc _ _ z_c_1.out]; go_simp
  have c_2_2 : w2.cell? ⟨w.heap.size + 1 + 1, 2, none⟩ = some (.int .i64 b3) := by rw [hc _ _ z_c_1.out]; go_simp
  have c_3_2 : w2.cell? ⟨w.heap.size + 1 + 1, 3, none⟩ = some (.int .i64 p3) := by rw [hc _ _ z_c_1.out]; go_simp
  clear hc hf a_0_1 a_1_1 a_2_1 a_3_1 b_0_1 b_1_1 b_2_1 b_3_1 c_0_1 c_1_1 c_2_1 c_3_1
  have z_a_2 : Hid (w.heap.size < w2.heap.size) := Lib.hid (by have h1 := z_a_1.out; have h2 := hb2.size; first | (with_reducible exact Nat.lt_of_lt_of_le h1 h2) | omega | (simp at h2; omega))
  clear z_a_1
  have z_b_2 : Hid (w.heap.size + 1 < w2.heap.size) := Lib.hid (by have h1 := z_b_1.out; have h2 := hb2.size; first | (with_reducible exact Nat.lt_of_lt_of_le h1 h2) | omega | (simp at h2; omega))
  clear z_b_1
  have z_c_2 : Hid (w.heap.size + 1 + 1 < w2.heap.size) := Lib.hid (by have h1 := z_c_1.out; have h2 := hb2.size; first | (with_reducible exact Nat.lt_of_lt_of_le h1 h2) | omega | (simp at h2; omega))
  clear z_c_1
  have B2 : Below w.heap.size w w2 := by
    refine Below.trans ?_ (hb2.mono (by first | with_reducible exact B1.size | (have := B1.size; simp; omega)))
    repeat (first | with_reducible assumption | with_reducible exact Below.refl _ _ | apply Below.drew | refine Below.setCell ?_ (by first | omega | (simp; done) | (simp; omega)) _ | refine Below.alloc ?_ (by first | omega | (simp; done) | (simp; omega)) _)
  clear hb2 B1
  rw [Hba.out]
  cases ab
  · have Hd' := Hd.out
    go_wp2_with fail
    go_at_call 14
    (with_reducible refine (alive_any _).mono ?_)
    rintro e w3 ⟨rfl, hb3⟩
    obtain ⟨hc, hf⟩ := bcell hb3
    have a_0_3 : w3.cell? ⟨w.heap.size, 0, none⟩ = some (.int .i64 r) := by rw [hc _ _ z_a_2.out]; go_simp
    have a_1_3 : w3.cell? ⟨w.heap.size, 1, none⟩ = some (.int .i64 c) := by rw [hc _ _ z_a_2.out]; go_simp
    have a_2_3 : w3.cell? ⟨w.heap.size, 2, none⟩ = some (.int .i64 b) := by rw [hc _ _ z_a_2.out]; go_simp
    have a_3_3 : w3.cell? ⟨w.heap.size, 3, none⟩ = some (.int .i64 p) := by rw [hc _ _ z_a_2.out]; go_simp
    have b_0_3 : w3.cell? ⟨w.heap.size + 1, 0, none⟩ = some (.int .i64 r) := by rw [hc _ _ z_b_2.out]; go_simp
    have b_1_3 : w3.cell? ⟨w.heap.size + 1, 1, none⟩ = some (.int .i64 c) := by rw [hc _ _ z_b_2.out]; go_simp
    have b_2_3 : w3.cell? ⟨w.heap.size + 1, 2, none⟩ = some (.int .i64 b) := by rw [hc _ _ z_b_2.out]; go_simp
    have b_3_3 : w3.cell? ⟨w.heap.size + 1, 3, none⟩ = some (.int .i64 p2) := by rw [hc _ _ z_b_2.out]; go_simp
    have c_0_3 : w3.cell? ⟨w.heap.size + 1 + 1, 0, none⟩ = some (.int .i64 r3) := by rw [hc _ _ z_c_2.out]; go_simp
    have c_1_3 : w3.cell? ⟨w.heap.size + 1 + 1, 1, none⟩ = some (.int .i64 c3) := by rw [hc _ _ z_c_2.out]; go_simp
    have c_2_3 : w3.cell? ⟨w.heap.size + 1 + 1, 2, none⟩ = some (.int .i64 b3) := by rw [hc _ _ z_c_2.out]; go_simp
    have c_3_3 : w3.cell? ⟨w.heap.size + 1 + 1, 3, none⟩ = some (.int .i64 p3) := by rw [hc _ _ z_c_2.out]; go_simp
    clear hc hf a_0_2 a_1_2 a_2_2 a_3_2 b_0_2 b_1_2 b_2_2 b_3_2 c_0_2 c_1_2 c_2_2 c_3_2
    have z_a_3 : Hid (w.heap.size < w3.heap.size) := Lib.hid (by have h1 := z_a_2.out; have h2 := hb3.size; first | (with_reducible exact Nat.lt_of_lt_of_le h1 h2) | omega | (simp at h2; omega))
    clear z_a_2
    have z_b_3 : Hid (w.heap.size + 1 < w3.heap.size) := Lib.hid (by have h1 := z_b_2.out; have h2 := hb3.size; first | (with_reducible exact Nat.lt_of_lt_of_le h1 h2) | omega | (simp at h2; omega))
    clear z_b_2
    have z_c_3 : Hid (w.heap.size + 1 + 1 < w3.heap.size) := Lib.hid (by have h1 := z_c_2.out; have h2 := hb3.size; first | (with_reducible exact Nat.lt_of_lt_of_le h1 h2) | omega | (simp at h2; omega))
    clear z_c_2
    have B3 : Below w.heap.size w w3 := by
      refine Below.trans ?_ (hb3.mono (by first | with_reducible exact B2.size | (have := B2.size; simp; omega)))
      repeat (first | with_reducible assumption | with_reducible exact Below.refl _ _ | apply Below.drew | refine Below.setCell ?_ (by first | omega | (simp; done) | (simp; omega)) _ | refine Below.alloc ?_ (by first | omega | (simp; done) | (simp; omega)) _)
    clear hb3 B2
    cases x
    · go_wp2_with fail
      go_at_call 8
      (with_reducible refine (better_bad _ _ _ _ _ _ _ _ _ (by rw [H3.out, Bool.and_false])).mono ?_)
      rintro e w4 ⟨rfl, hb4⟩
      obtain ⟨hc, hf⟩ := bcell hb4
      have a_0_4 : w4.cell? ⟨w.heap.size, 0, none⟩ = some (.int .i64 r) := by rw [hc _ _ z_a_3.out]; go_simp
      have a_1_4 : w4.cell? ⟨w.heap.size, 1, none⟩ = some (.int .i64 c) := by rw [hc _ _ z_a_3.out]; go_simp
      have a_2_4 : w4.cell? ⟨w.heap.size, 2, none⟩ = some (.int .i64 b) := by rw [hc _ _ z_a_3.out]; go_simp
      have a_3_4 : w4.cell? ⟨w.heap.size, 3, none⟩ = some (.int .i64 p) := by rw [hc _ _ z_a_3.out]; go_simp
      have b_0_4 : w4.cell? ⟨w.heap.size + 1, 0, none⟩ = some (.int .i64 r) := by rw [hc _ _ z_b_3.out]; go_simp
      have b_1_4 : w4.cell? ⟨w.heap.size + 1, 1, none⟩ = some (.int .i64 c) := by rw [hc _ _ z_b_3.out]; go_simp
      have b_2_4 : w4.cell? ⟨w.heap.size + 1, 2, none⟩ = some (.int .i64 b) := by rw [hc _ _ z_b_3.out]; go_simp
      have b_3_4 : w4.cell? ⟨w.heap.size + 1, 3, none⟩ = some (.int .i64 p2) := by rw [hc _ _ z_b_3.out]; go_simp
      have c_0_4 : w4.cell? ⟨w.heap.size + 1 + 1, 0, none⟩ = some (.int .i64 r3) := by rw [hc _ _ z_c_3.out]; go_simp
      have c_1_4 : w4.cell? ⟨w.heap.size + 1 + 1, 1, none⟩ = some (.int .i64 c3) := by rw [hc _ _ z_c_3.out]; go_simp
      have c_2_4 : w4.cell? ⟨w.heap.size + 1 + 1, 2, none⟩ = some (.int .i64 b3) := by rw [hc _ _ z_c_3.out]; go_simp
      have c_3_4 : w4.cell? ⟨w.heap.size + 1 + 1, 3, none⟩ = some (.int .i64 p3) := by rw [hc _ _ z_c_3.out]; go_simp
      clear hc hf a_0_3 a_1_3 a_2_3 a_3_3 b_0_3 b_1_3 b_2_3 b_3_3 c_0_3 c_1_3 c_2_3 c_3_3
      have z_a_4 : Hid (w.heap.size < w4.heap.size) := Lib.hid (by have h1 := z_a_3.out; have h2 := hb4.size; first | (with_reducible exact Nat.lt_of_lt_of_le h1 h2) | omega | (simp at h2; omega))
      clear z_a_3
      have z_b_4 : Hid (w.heap.size + 1 < w4.heap.size) := Lib.hid (by have h1 := z_b_3.out; have h2 := hb4.size; first | (with_reducible exact Nat.lt_of_lt_of_le h1 h2) | omega | (simp at h2; omega))
      clear z_b_3
      have z_c_4 : Hid (w.heap.size + 1 + 1 < w4.heap.size) := Lib.hid (by have h1 := z_c_3.out; have h2 := hb4.size; first | (with_reducible exact Nat.lt_of_lt_of_le h1 h2) | omega | (simp at h2; omega))
      clear z_c_3
      have B4 : Below w.heap.size w w4 := by
        refine Below.trans ?_ (hb4.mono (by first | with_reducible exact B3.size | (have := B3.size; simp; omega)))
        repeat (first | with_reducible assumption | with_reducible exact Below.refl _ _ | apply Below.drew | refine Below.setCell ?_ (by first | omega | (simp; done) | (simp; omega)) _ | refine Below.alloc ?_ (by first | omega | (simp; done) | (simp; omega)) _)
      clear hb4 B3
      go_wp2_with fail
      go_at_call 8
      (with_reducible refine (better_bad _ _ _ _ _ _ _ _ _ (by rw [H3.out, Bool.and_false])).mono ?_)
      rintro e w5 ⟨rfl, hb5⟩
      obtain ⟨hc, hf⟩ := bcell hb5
      have a_0_5 : w5.cell? ⟨w.heap.size, 0, none⟩ = some (.int .i64 r) := by rw [hc _ _ z_a_4.out]; go_simp
      have a_1_5 : w5.cell? ⟨w.heap.size, 1, none⟩ = some (.int .i64 c) := by rw [hc _ _ z_a_4.out]; go_simp
      have a_2_5 : w5.cell? ⟨w.heap.size, 2, none⟩ = some (.int .i64 b) := by rw [hc _ _ z_a_4.out]; go_simp
      have a_3_5 : w5.cell? ⟨w.heap.size, 3, none⟩ = some (.int .i64 p) := by rw [hc _ _ z_a_4.out]; go_simp
      have b_0_5 : w5.cell? ⟨w.heap.size + 1, 0, none⟩ = some (.int .i64 r) := by rw [hc _ _ z_b_4.out]; go_simp
      have b_1_5 : w5.cell? ⟨w.heap.size + 1, 1, none⟩ = some (.int .i64 c) := by rw [hc _ _ z_b_4.out]; go_simp
      have b_2_5 : w5.cell? ⟨w.heap.size + 1, 2, none⟩ = some (.int .i64 b) := by rw [hc _ _ z_b_4.out]; go_simp
      have b_3_5 : w5.cell? ⟨w.heap.size + 1, 3, none⟩ = some (.int .i64 p2) := by rw [hc _ _ z_b_4.out]; go_simp
      have c_0_5 : w5.cell? ⟨w.heap.size + 1 + 1, 0, none⟩ = some (.int .i64 r3) := by rw [hc _ _ z_c_4.out]; go_simp
      have c_1_5 : w5.cell? ⟨w.heap.size + 1 + 1, 1, none⟩ = some (.int .i64 c3) := by rw [hc _ _ z_c_4.out]; go_simp
      have c_2_5 : w5.cell? ⟨w.heap.size + 1 + 1, 2, none⟩ = some (.int .i64 b3) := by rw [hc _ _ z_c_4.out]; go_simp
      have c_3_5 : w5.cell? ⟨w.heap.size + 1 + 1, 3, none⟩ = some (.int .i64 p3) := by rw [hc _ _ z_c_4.out]; go_simp
      clear hc hf a_0_4 a_1_4 a_2_4 a_3_4 b_0_4 b_1_4 b_2_4 b_3_4 c_0_4 c_1_4 c_2_4 c_3_4
      have z_a_5 : Hid (w.heap.size < w5.heap.size) := Lib.hid (by have h1 := z_a_4.out; have h2 := hb5.size; first | (with_reducible exact Nat.lt_of_lt_of_le h1 h2) | omega | (simp at h2; omega))
      clear z_a_4
      have z_b_5 : Hid (w.heap.size + 1 < w5.heap.size) := Lib.hid (by have h1 := z_b_4.out; have h2 := hb5.size; first | (with_reducible exact Nat.lt_of_lt_of_le h1 h2) | omega | (simp at h2; omega))
      clear z_b_4
      have z_c_5 : Hid (w.heap.size + 1 + 1 < w5.heap.size) := Lib.hid (by have h1 := z_c_4.out; have h2 := hb5.size; first | (with_reducible exact Nat.lt_of_lt_of_le h1 h2) | omega | (simp at h2; omega))
      clear z_c_4
      have B5 : Below w.heap.size w w5 := by
        refine Below.trans ?_ (hb5.mono (by first | with_reducible exact B4.size | (have := B4.size; simp; omega)))
        repeat (first | with_reducible assumption | with_reducible exact Below.refl _ _ | apply Below.drew | refine Below.setCell ?_ (by first | omega | (simp; done) | (simp; omega)) _ | refine Below.alloc ?_ (by first | omega | (simp; done) | (simp; omega)) _)
      clear hb5 B4
      go_wp2_with fail
      go_ret
      exact ⟨rfl, B5⟩
    · go_wp2_with fail
      go_at_call 8
      (with_reducible refine (better_good _ _ _ _ _ _ _ _ _ H2.out H3.out).mono ?_)
      rintro e w4 ⟨rfl, hb4⟩
      obtain ⟨hc, hf⟩ := bcell hb4
      have a_0_4 : w4.cell? ⟨w.heap.size, 0, none⟩ = some (.int .i64 r) := by rw [hc _ _ z_a_3.out]; go_simp
      have a_1_4 : w4.cell? ⟨w.heap.size, 1, none⟩ = some (.int .i64 c) := by rw [hc _ _ z_a_3.out]; go_simp
      have a_2_4 : w4.cell? ⟨w.heap.size, 2, none⟩ = some (.int .i64 b) := by rw [hc _ _ z_a_3.out]; go_simp
      have a_3_4 : w4.cell? ⟨w.heap.size, 3, none⟩ = some (.int .i64 p) := by rw [hc _ _ z_a_3.out]; go_simp
      have b_0_4 : w4.cell? ⟨w.heap.size + 1, 0, none⟩ = some (.int .i64 r) := by rw [hc _ _ z_b_3.out]; go_simp
      have b_1_4 : w4.cell? ⟨w.heap.size + 1, 1, none⟩ = some (.int .i64 c) := by rw [hc _ _ z_b_3.out]; go_simp
      have b_2_4 : w4.cell? ⟨w.heap.size + 1, 2, none⟩ = some (.int .i64 b) := by rw [hc _ _ z_b_3.out]; go_simp
      have b_3_4 : w4.cell? ⟨w.heap.size + 1, 3, none⟩ = some (.int .i64 p2) := by rw [hc _ _ z_b_3.out]; go_simp
      have c_0_4 : w4.cell? ⟨w.heap.size + 1 + 1, 0, none⟩ = some (.int .i64 r3) := by rw [hc _ _ z_c_3.out]; go_simp
      have c_1_4 : w4.cell? ⟨w.heap.size + 1 + 1, 1, none⟩ = some (.int .i64 c3) := by rw [hc _ _ z_c_3.out]; go_simp
      have c_2_4 : w4.cell? ⟨w.heap.size + 1 + 1, 2, none⟩ = some (.int .i64 b3) := by rw [hc _ _ z_c_3.out]; go_simp
      have c_3_4 : w4.cell? ⟨w.heap.size + 1 + 1, 3, none⟩ = some (.int .i64 p3) := by rw [hc _ _ z_c_3.out]; go_simp
      clear hc hf a_0_3 a_1_3 a_2_3 a_3_3 b_0_3 b_1_3 b_2_3 b_3_3 c_0_3 c_1_3 c_2_3 c_3_3
      have z_a_4 : Hid (w.heap.size < w4.heap.size) := Lib.hid (by have h1 := z_a_3.out; have h2 := hb4.size; first | (with_reducible exact Nat.lt_of_lt_of_le h1 h2) | omega | (simp at h2; omega))
      clear z_a_3
      have z_b_4 : Hid (w.heap.size + 1 < w4.heap.size) := Lib.hid (by have h1 := z_b_3.out; have h2 := hb4.size; first | (with_reducible exact Nat.lt_of_lt_of_le h1 h2) | omega | (simp at h2; omega))
      clear z_b_3
      have z_c_4 : Hid (w.heap.size + 1 + 1 < w4.heap.size) := Lib.hid (by have h1 := z_c_3.out; have h2 := hb4.size; first | (with_reducible exact Nat.lt_of_lt_of_le h1 h2) | omega | (simp at h2; omega))
      clear z_c_3
      have B4 : Below w.heap.size w w4 := by
        refine Below.trans ?_ (hb4.mono (by first | with_reducible exact B3.size | (have := B3.size; simp; omega)))
        repeat (first | with_reducible assumption | with_reducible exact Below.refl _ _ | apply Below.drew | refine Below.setCell ?_ (by first | omega | (simp; done) | (simp; omega)) _ | refine Below.alloc ?_ (by first | omega | (simp; done) | (simp; omega)) _)
      clear hb4 B3
      rw [Hbc.out]
      go_wp2_with fail
      go_at_call 8
      (with_reducible refine (better_good _ _ _ _ _ _ _ _ _ H.out H3.out).mono ?_)
      rintro e w5 ⟨rfl, hb5⟩
      obtain ⟨hc, hf⟩ := bcell hb5
      have a_0_5 : w5.cell? ⟨w.heap.size, 0, none⟩ = some (.int .i64 r) := by rw [hc _ _ z_a_4.out]; go_simp
      have a_1_5 : w5.cell? ⟨w.heap.size, 1, none⟩ = some (.int .i64 c) := by rw [hc _ _ z_a_4.out]; go_simp
      have a_2_5 : w5.cell? ⟨w.heap.size, 2, none⟩ = some (.int .i64 b) := by rw [hc _ _ z_a_4.out]; go_simp
      have a_3_5 : w5.cell? ⟨w.heap.size, 3, none⟩ = some (.int .i64 p) := by rw [hc _ _ z_a_4.out]; go_simp
      have b_0_5 : w5.cell? ⟨w.heap.size + 1, 0, none⟩ = some (.int .i64 r) := by rw [hc _ _ z_b_4.out]; go_simp
      have b_1_5 : w5.cell? ⟨w.heap.size + 1, 1, none⟩ = some (.int .i64 c) := by rw [hc _ _ z_b_4.out]; go_simp
      have b_2_5 : w5.cell? ⟨w.heap.size + 1, 2, none⟩ = some (.int .i64 b) := by rw [hc _ _ z_b_4.out]; go_simp
      have b_3_5 : w5.cell? ⟨w.heap.size + 1, 3, none⟩ = some (.int .i64 p2) := by rw [hc _ _ z_b_4.out]; go_simp
      have c_0_5 : w5.cell? ⟨w.heap.size + 1 + 1, 0, none⟩ = some (.int .i64 r3) := by rw [hc _ _ z_c_4.out]; go_simp
      have c_1_5 : w5.cell? ⟨w.heap.size + 1 + 1, 1, none⟩ = some (.int .i64 c3) := by rw [hc _ _ z_c_4.out]; go_simp
      have c_2_5 : w5.cell? ⟨w.heap.size + 1 + 1, 2, none⟩ = some (.int .i64 b3) := by rw [hc _ _ z_c_4.out]; go_simp
      have c_3_5 : w5.cell? ⟨w.heap.size + 1 + 1, 3, none⟩ = some (.int .i64 p3) := by rw [hc _ _ z_c_4.out]; go_simp
      clear hc hf a_0_4 a_1_4 a_2_4 a_3_4 b_0_4 b_1_4 b_2_4 b_3_4 c_0_4 c_1_4 c_2_4 c_3_4
      have z_a_5 : Hid (w.heap.size < w5.heap.size) := Lib.hid (by have h1 := z_a_4.out; have h2 := hb5.size; first | (with_reducible exact Nat.lt_of_lt_of_le h1 h2) | omega | (simp at h2; omega))
      clear z_a_4
      have z_b_5 : Hid (w.heap.size + 1 < w5.heap.size) := Lib.hid (by have h1 := z_b_4.out; have h2 := hb5.size; first | (with_reducible exact Nat.lt_of_lt_of_le h1 h2) | omega | (simp at h2; omega))
      clear z_b_4
      have z_c_5 : Hid (w.heap.size + 1 + 1 < w5.heap.size) := Lib.hid (by have h1 := z_c_4.out; have h2 := hb5.size; first | (with_reducible exact Nat.lt_of_lt_of_le h1 h2) | omega | (simp at h2; omega))
      clear z_c_4
      have B5 : Below w.heap.size w w5 := by
        refine Below.trans ?_ (hb5.mono (by first | with_reducible exact B4.size | (have := B4.size; simp; omega)))
        repeat (first | with_reducible assumption | with_reducible exact Below.refl _ _ | apply Below.drew | refine Below.setCell ?_ (by first | omega | (simp; done) | (simp; omega)) _ | refine Below.alloc ?_ (by first | omega | (simp; done) | (simp; omega)) _)
      clear hb5 B4
      rw [Hac.out]
      go_wp2_with fail
      go_ret
      exact ⟨rfl, B5⟩
  · have Hd' := Hd.out
    go_wp2_with fail
    go_at_call 14
    (with_reducible refine (alive_any _).mono ?_)
    rintro e w3 ⟨rfl, hb3⟩
    obtain ⟨hc, hf⟩ := bcell hb3
    have a_0_3 : w3.cell? ⟨w.heap.size, 0, none⟩ = some (.int .i64 r) := by rw [hc _ _ z_a_2.out]; go_simp
    have a_1_3 : w3.cell? ⟨w.heap.size, 1, none⟩ = some (.int .i64 c) := by rw [hc _ _ z_a_2.out]; go_simp
    have a_2_3 : w3.cell? ⟨w.heap.size, 2, none⟩ = some (.int .i64 b) := by rw [hc _ _ z_a_2.out]; go_simp
    have a_3_3 : w3.cell? ⟨w.heap.size, 3, none⟩ = some (.int .i64 p) := by rw [hc _ _ z_a_2.out]; go_simp
    have b_0_3 : w3.cell? ⟨w.heap.size + 1, 0, none⟩ = some (.int .i64 r) := by rw [hc _ _ z_b_2.out]; go_simp
    have b_1_3 : w3.cell? ⟨w.heap.size + 1, 1, none⟩ = some (.int .i64 c) := by rw [hc _ _ z_b_2.out]; go_simp
    have b_2_3 : w3.cell? ⟨w.heap.size + 1, 2, none⟩ = some (.int .i64 b) := by rw [hc _ _ z_b_2.out]; go_simp
    have b_3_3 : w3.cell? ⟨w.heap.size + 1, 3, none⟩ = some (.int .i64 p2) := by rw [hc _ _ z_b_2.out]; go_simp
    have c_0_3 : w3.cell? ⟨w.heap.size + 1 + 1, 0, none⟩ = some (.int .i64 r3) := by rw [hc _ _ z_c_2.out]; go_simp
    have c_1_3 : w3.cell? ⟨w.heap.size + 1 + 1, 1, none⟩ = some (.int .i64 c3) := by rw [hc _ _ z_c_2.out]; go_simp
    have c_2_3 : w3.cell? ⟨w.heap.size + 1 + 1, 2, none⟩ = some (.int .i64 b3) := by rw [hc _ _ z_c_2.out]; go_simp
    have c_3_3 : w3.cell? ⟨w.heap.size + 1 + 1, 3, none⟩ = some (.int .i64 p3) := by rw [hc _ _ z_c_2.out]; go_simp
    clear hc hf a_0_2 a_1_2 a_2_2 a_3_2 b_0_2 b_1_2 b_2_2 b_3_2 c_0_2 c_1_2 c_2_2 c_3_2
    have z_a_3 : Hid (w.heap.size < w3.heap.size) := Lib.hid (by have h1 := z_a_2.out; have h2 := hb3.size; first | (with_reducible exact Nat.lt_of_lt_of_le h1 h2) | omega | (simp at h2; omega))
    clear z_a_2
    have z_b_3 : Hid (w.heap.size + 1 < w3.heap.size) := Lib.hid (by have h1 := z_b_2.out; have h2 := hb3.size; first | (with_reducible exact Nat.lt_of_lt_of_le h1 h2) | omega | (simp at h2; omega))
    clear z_b_2
    have z_c_3 : Hid (w.heap.size + 1 + 1 < w3.heap.size) := Lib.hid (by have h1 := z_c_2.out; have h2 := hb3.size; first | (with_reducible exact Nat.lt_of_lt_of_le h1 h2) | omega | (simp at h2; omega))
    clear z_c_2
    have B3 : Below w.heap.size w w3 := by
      refine Below.trans ?_ (hb3.mono (by first | with_reducible exact B2.size | (have := B2.size; simp; omega)))
      repeat (first | with_reducible assumption | with_reducible exact Below.refl _ _ | apply Below.drew | refine Below.setCell ?_ (by first | omega | (simp; done) | (simp; omega)) _ | refine Below.alloc ?_ (by first | omega | (simp; done) | (simp; omega)) _)
    clear hb3 B2
    cases x
    · go_wp2_with fail
      go_at_call 8
      (with_reducible refine (better_bad _ _ _ _ _ _ _ _ _ (by rw [H3.out, Bool.and_false])).mono ?_)
      rintro e w4 ⟨rfl, hb4⟩
      obtain ⟨hc, hf⟩ := bcell hb4
      have a_0_4 : w4.cell? ⟨w.heap.size, 0, none⟩ = some (.int .i64 r) := by rw [hc _ _ z_a_3.out]; go_simp
      have a_1_4 : w4.cell? ⟨w.heap.size, 1, none⟩ = some (.int .i64 c) := by rw [hc _ _ z_a_3.out]; go_simp
      have a_2_4 : w4.cell? ⟨w.heap.size, 2, none⟩ = some (.int .i64 b) := by rw [hc _ _ z_a_3.out]; go_simp
      have a_3_4 : w4.cell? ⟨w.heap.size, 3, none⟩ = some (.int .i64 p) := by rw [hc _ _ z_a_3.out]; go_simp
      have b_0_4 : w4.cell? ⟨w.heap.size + 1, 0, none⟩ = some (.int .i64 r) := by rw [hc _ _ z_b_3.out]; go_simp
      have b_1_4 : w4.cell? ⟨w.heap.size + 1, 1, none⟩ = some (.int .i64 c) := by rw [hc _ _ z_b_3.out]; go_simp
      have b_2_4 : w4.cell? ⟨w.heap.size + 1, 2, none⟩ = some (.int .i64 b) := by rw [hc _ _ z_b_3.out]; go_simp
      have b_3_4 : w4.cell? ⟨w.heap.size + 1, 3, none⟩ = some (.int .i64 p2) := by rw [hc _ _ z_b_3.out]; go_simp
      have c_0_4 : w4.cell? ⟨w.heap.size + 1 + 1, 0, none⟩ = some (.int .i64 r3) := by rw [hc _ _ z_c_3.out]; go_simp
      have c_1_4 : w4.cell? ⟨w.heap.size + 1 + 1, 1, none⟩ = some (.int .i64 c3) := by rw [hc _ _ z_c_3.out]; go_simp
      have c_2_4 : w4.cell? ⟨w.heap.size + 1 + 1, 2, none⟩ = some (.int .i64 b3) := by rw [hc _ _ z_c_3.out]; go_simp
      have c_3_4 : w4.cell? ⟨w.heap.size + 1 + 1, 3, none⟩ = some (.int .i64 p3) := by rw [hc _ _ z_c_3.out]; go_simp
      clear hc hf a_0_3 a_1_3 a_2_3 a_3_3 b_0_3 b_1_3 b_2_3 b_3_3 c_0_3 c_1_3 c_2_3 c_3_3
      have z_a_4 : Hid (w.heap.size < w4.heap.size) := Lib.hid (by have h1 := z_a_3.out; have h2 := hb4.size; first | (with_reducible exact Nat.lt_of_lt_of_le h1 h2) | omega | (simp at h2; omega))
      clear z_a_3
      have z_b_4 : Hid (w.heap.size + 1 < w4.heap.size) := Lib.hid (by have h1 := z_b_3.out; have h2 := hb4.size; first | (with_reducible exact Nat.lt_of_lt_of_le h1 h2) | omega | (simp at h2; omega))
      clear z_b_3
      have z_c_4 : Hid (w.heap.size + 1 + 1 < w4.heap.size) := Lib.hid (by have h1 := z_c_3.out; have h2 := hb4.size; first | (with_reducible exact Nat.lt_of_lt_of_le h1 h2) | omega | (simp at h2; omega))
      clear z_c_3
      have B4 : Below w.heap.size w w4 := by
        refine Below.trans ?_ (hb4.mono (by first | with_reducible exact B3.size | (have := B3.size; simp; omega)))
        repeat (first | with_reducible assumption | with_reducible exact Below.refl _ _ | apply Below.drew | refine Below.setCell ?_ (by first | omega | (simp; done) | (simp; omega)) _ | refine Below.alloc ?_ (by first | omega | (simp; done) | (simp; omega)) _)
      clear hb4 B3
      go_wp2_with fail
      go_at_call 8
      (with_reducible refine (better_bad _ _ _ _ _ _ _ _ _ (by rw [H3.out, Bool.and_false])).mono ?_)
      rintro e w5 ⟨rfl, hb5⟩
      obtain ⟨hc, hf⟩ := bcell hb5
      have a_0_5 : w5.cell? ⟨w.heap.size, 0, none⟩ = some (.int .i64 r) := by rw [hc _ _ z_a_4.out]; go_simp
      have a_1_5 : w5.cell? ⟨w.heap.size, 1, none⟩ = some (.int .i64 c) := by rw [hc _ _ z_a_4.out]; go_simp
      have a_2_5 : w5.cell? ⟨w.heap.size, 2, none⟩ = some (.int .i64 b) := by rw [hc _ _ z_a_4.out]; go_simp
      have a_3_5 : w5.cell? ⟨w.heap.size, 3, none⟩ = some (.int .i64 p) := by rw [hc _ _ z_a_4.out]; go_simp
      have b_0_5 : w5.cell? ⟨w.heap.size + 1, 0, none⟩ = some (.int .i64 r) := by rw [hc _ _ z_b_4.out]; go_simp
      have b_1_5 : w5.cell? ⟨w.heap.size + 1, 1, none⟩ = some (.int .i64 c) := by rw [hc _ _ z_b_4.out]; go_simp
      have b_2_5 : w5.cell? ⟨w.heap.size + 1, 2, none⟩ = some (.int .i64 b) := by rw [hc _ _ z_b_4.out]; go_simp
      have b_3_5 : w5.cell? ⟨w.heap.size + 1, 3, none⟩ = some (.int .i64 p2) := by rw [hc _ _ z_b_4.out]; go_simp
      have c_0_5 : w5.cell? ⟨w.heap.size + 1 + 1, 0, none⟩ = some (.int .i64 r3) := by rw [hc _ _ z_c_4.out]; go_simp
      have c_1_5 : w5.cell? ⟨w.heap.size + 1 + 1, 1, none⟩ = some (.int .i64 c3) := by rw [hc _ _ z_c_4.out]; go_simp
      have c_2_5 : w5.cell? ⟨w.heap.size + 1 + 1, 2, none⟩ = some (.int .i64 b3) := by rw [hc _ _ z_c_4.out]; go_simp
      have c_3_5 : w5.cell? ⟨w.heap.size + 1 + 1, 3, none⟩ = some (.int .i64 p3) := by rw [hc _ _ z_c_4.out]; go_simp
      clear hc hf a_0_4 a_1_4 a_2_4 a_3_4 b_0_4 b_1_4 b_2_4 b_3_4 c_0_4 c_1_4 c_2_4 c_3_4
      have z_a_5 : Hid (w.heap.size < w5.heap.size) := Lib.hid (by have h1 := z_a_4.out; have h2 := hb5.size; first | (with_reducible exact Nat.lt_of_lt_of_le h1 h2) | omega | (simp at h2; omega))
      clear z_a_4
      have z_b_5 : Hid (w.heap.size + 1 < w5.heap.size) := Lib.hid (by have h1 := z_b_4.out; have h2 := hb5.size; first | (with_reducible exact Nat.lt_of_lt_of_le h1 h2) | omega | (simp at h2; omega))
      clear z_b_4
      have z_c_5 : Hid (w.heap.size + 1 + 1 < w5.heap.size) := Lib.hid (by have h1 := z_c_4.out; have h2 := hb5.size; first | (with_reducible exact Nat.lt_of_lt_of_le h1 h2) | omega | (simp at h2; omega))
      clear z_c_4
      have B5 : Below w.heap.size w w5 := by
        refine Below.trans ?_ (hb5.mono (by first | with_reducible exact B4.size | (have := B4.size; simp; omega)))
        repeat (first | with_reducible assumption | with_reducible exact Below.refl _ _ | apply Below.drew | refine Below.setCell ?_ (by first | omega | (simp; done) | (simp; omega)) _ | refine Below.alloc ?_ (by first | omega | (simp; done) | (simp; omega)) _)
      clear hb5 B4
      go_wp2_with fail
      go_ret
      exact ⟨rfl, B5⟩
    · go_wp2_with fail
      go_at_call 8
      (with_reducible refine (better_good _ _ _ _ _ _ _ _ _ H2.out H3.out).mono ?_)
      rintro e w4 ⟨rfl, hb4⟩
      obtain ⟨hc, hf⟩ := bcell hb4
      have a_0_4 : w4.cell? ⟨w.heap.size, 0, none⟩ = some (.int .i64 r) := by rw [hc _ _ z_a_3.out]; go_simp
      have a_1_4 : w4.cell? ⟨w.heap.size, 1, none⟩ = some (.int .i64 c) := by rw [hc _ _ z_a_3.out]; go_simp
      have a_2_4 : w4.cell? ⟨w.heap.size, 2, none⟩ = some (.int .i64 b) := by rw [hc _ _ z_a_3.out]; go_simp
      have a_3_4 : w4.cell? ⟨w.heap.size, 3, none⟩ = some (.int .i64 p) := by rw [hc _ _ z_a_3.out]; go_simp
      have b_0_4 : w4.cell? ⟨w.heap.size + 1, 0, none⟩ = some (.int .i64 r) := by rw [hc _ _ z_b_3.out]; go_simp
      have b_1_4 : w4.cell? ⟨w.heap.size + 1, 1, none⟩ = some (.int .i64 c) := by rw [hc _ _ z_b_3.out]; go_simp
      have b_2_4 : w4.cell? ⟨w.heap.size + 1, 2, none⟩ = some (.int .i64 b) := by rw [hc _ _ z_b_3.out]; go_simp
      have b_3_4 : w4.cell? ⟨w.heap.size + 1, 3, none⟩ = some (.int .i64 p2) := by rw [hc _ _ z_b_3.out]; go_simp
      have c_0_4 : w4.cell? ⟨w.heap.size + 1 + 1, 0, none⟩ = some (.int .i64 r3) := by rw [hc _ _ z_c_3.out]; go_simp
      have c_1_4 : w4.cell? ⟨w.heap.size + 1 + 1, 1, none⟩ = some (.int .i64 c3) := by rw [hc _ _ z_c_3.out]; go_simp
      have c_2_4 : w4.cell? ⟨w.heap.size + 1 + 1, 2, none⟩ = some (.int .i64 b3) := by rw [hc _ _ z_c_3.out]; go_simp
      have c_3_4 : w4.cell? ⟨w.heap.size + 1 + 1, 3, none⟩ = some (.int .i64 p3) := by rw [hc _ _ z_c_3.out]; go_simp
      clear hc hf a_0_3 a_1_3 a_2_3 a_3_3 b_0_3 b_1_3 b_2_3 b_3_3 c_0_3 c_1_3 c_2_3 c_3_3
      have z_a_4 : Hid (w.heap.size < w4.heap.size) := Lib.hid (by have h1 := z_a_3.out; have h2 := hb4.size; first | (with_reducible exact Nat.lt_of_lt_of_le h1 h2) | omega | (simp at h2; omega))
      clear z_a_3
      have z_b_4 : Hid (w.heap.size + 1 < w4.heap.size) := Lib.hid (by have h1 := z_b_3.out; have h2 := hb4.size; first | (with_reducible exact Nat.lt_of_lt_of_le h1 h2) | omega | (simp at h2; omega))
      clear z_b_3
      have z_c_4 : Hid (w.heap.size + 1 + 1 < w4.heap.size) := Lib.hid (by have h1 := z_c_3.out; have h2 := hb4.size; first | (with_reducible exact Nat.lt_of_lt_of_le h1 h2) | omega | (simp at h2; omega))
      clear z_c_3
      have B4 : Below w.heap.size w w4 := by
        refine Below.trans ?_ (hb4.mono (by first | with_reducible exact B3.size | (have := B3.size; simp; omega)))
        repeat (first | with_reducible assumption | with_reducible exact Below.refl _ _ | apply Below.drew | refine Below.setCell ?_ (by first | omega | (simp; done) | (simp; omega)) _ | refine Below.alloc ?_ (by first | omega | (simp; done) | (simp; omega)) _)
      clear hb4 B3
      rw [Hbc.out]
      go_wp2_with fail
      go_at_call 8
      (with_reducible refine (better_good _ _ _ _ _ _ _ _ _ H.out H3.out).mono ?_)
      rintro e w5 ⟨rfl, hb5⟩
      obtain ⟨hc, hf⟩ := bcell hb5
      have a_0_5 : w5.cell? ⟨w.heap.size, 0, none⟩ = some (.int .i64 r) := by rw [hc _ _ z_a_4.out]; go_simp
      have a_1_5 : w5.cell? ⟨w.heap.size, 1, none⟩ = some (.int .i64 c) := by rw [hc _ _ z_a_4.out]; go_simp
      have a_2_5 : w5.cell? ⟨w.heap.size, 2, none⟩ = some (.int .i64 b) := by rw [hc _ _ z_a_4.out]; go_simp
      have a_3_5 : w5.cell? ⟨w.heap.size, 3, none⟩ = some (.int .i64 p) := by rw [hc _ _ z_a_4.out]; go_simp
      have b_0_5 : w5.cell? ⟨w.heap.size + 1, 0, none⟩ = some (.int .i64 r) := by rw [hc _ _ z_b_4.out]; go_simp
      have b_1_5 : w5.cell? ⟨w.heap.size + 1, 1, none⟩ = some (.int .i64 c) := by rw [hc _ _ z_b_4.out]; go_simp
      have b_2_5 : w5.cell? ⟨w.heap.size + 1, 2, none⟩ = some (.int .i64 b) := by rw [hc _ _ z_b_4.out]; go_simp
      have b_3_5 : w5.cell? ⟨w.heap.size + 1, 3, none⟩ = some (.int .i64 p2) := by rw [hc _ _ z_b_4.out]; go_simp
      have c_0_5 : w5.cell? ⟨w.heap.size + 1 + 1, 0, none⟩ = some (.int .i64 r3) := by rw [hc _ _ z_c_4.out]; go_simp
      have c_1_5 : w5.cell? ⟨w.heap.size + 1 + 1, 1, none⟩ = some (.int .i64 c3) := by rw [hc _ _ z_c_4.out]; go_simp
      have c_2_5 : w5.cell? ⟨w.heap.size + 1 + 1, 2, none⟩ = some (.int .i64 b3) := by rw [hc _ _ z_c_4.out]; go_simp
      have c_3_5 : w5.cell? ⟨w.heap.size + 1 + 1, 3, none⟩ = some (.int .i64 p3) := by rw [hc _ _ z_c_4.out]; go_simp
      clear hc hf a_0_4 a_1_4 a_2_4 a_3_4 b_0_4 b_1_4 b_2_4 b_3_4 c_0_4 c_1_4 c_2_4 c_3_4
      have z_a_5 : Hid (w.heap.size < w5.heap.size) := Lib.hid (by have h1 := z_a_4.out; have h2 := hb5.size; first | (with_reducible exact Nat.lt_of_lt_of_le h1 h2) | omega | (simp at h2; omega))
      clear z_a_4
      have z_b_5 : Hid (w.heap.size + 1 < w5.heap.size) := Lib.hid (by have h1 := z_b_4.out; have h2 := hb5.size; first | (with_reducible exact Nat.lt_of_lt_of_le h1 h2) | omega | (simp at h2; omega))
      clear z_b_4
      have z_c_5 : Hid (w.heap.size + 1 + 1 < w5.heap.size) := Lib.hid (by have h1 := z_c_4.out; have h2 := hb5.size; first | (with_reducible exact Nat.lt_of_lt_of_le h1 h2) | omega | (simp at h2; omega))
      clear z_c_4
      have B5 : Below w.heap.size w w5 := by
        refine Below.trans ?_ (hb5.mono (by first | with_reducible exact B4.size | (have := B4.size; simp; omega)))
        repeat (first | with_reducible assumption | with_reducible exact Below.refl _ _ | apply Below.drew | refine Below.setCell ?_ (by first | omega | (simp; done) | (simp; omega)) _ | refine Below.alloc ?_ (by first | omega | (simp; done) | (simp; omega)) _)
      clear hb5 B4
      rw [Hac.out]
      cases bc <;> cases ac <;> first | (cases (Ht.out rfl); done) | (go_wp2_with fail; go_ret; exact ⟨rfl, B5⟩)

theorem order_good (r c b p r2 c2 b2 p2 r3 c3 b3 p3 : Int) (w : World) (h : okV r c b p = true) (h2 : okV r2 c2 b2 p2 = true) :
    Calls Try.prog 4 #[vv r c b p, vv r2 c2 b2 p2, vv r3 c3 b3 p3] w fun e w' => e = .returned (.bool true) ∧ Below w.heap.size w w' := by
  have tr : ∀ r2 c2 b2 p2, (betB r c b p r2 c2 b2 p2 && betB r2 c2 b2 p2 r3 c3 b3 p3) = true → betB r c b p r3 c3 b3 p3 = true := fun _ _ _ _ h => by
    rw [Bool.and_eq_true] at h; exact betB_trans h.1 h.2
  by_cases h0 : r = r2
  · subst h0
    by_cases h1 : c = c2
    · subst h1
      by_cases h3 : b = b2
      · subst h3
        by_cases h4 : p = p2
        · subst h4
          exact order_same r c b p r3 c3 b3 p3 w _ false _ _ h h2 rfl (betB_self ..) (betB_self ..) rfl rfl (by simp) rfl
        · exact order_apart3 r c b p p2 r3 c3 b3 p3 w _ _ _ _ h h2 rfl (by simpa using h4) rfl (betB_one (by omega)) rfl rfl (tr _ _ _ _)
      · exact order_apart2 r c b p b2 p2 r3 c3 b3 p3 w _ _ _ _ h h2 rfl (by simpa using h3) rfl (betB_one (by omega)) rfl rfl (tr _ _ _ _)
    · exact order_apart1 r c b p c2 b2 p2 r3 c3 b3 p3 w _ _ _ _ h h2 rfl (by simpa using h1) rfl (betB_one (by omega)) rfl rfl (tr _ _ _ _)
  · exact order_apart0 r c b p r2 c2 b2 p2 r3 c3 b3 p3 w _ _ _ _ h h2 rfl (by simpa using h0) rfl (betB_one (by omega)) rfl rfl (tr _ _ _ _)
theorem order_law (r c b p r2 c2 b2 p2 r3 c3 b3 p3 : Int) (w0 : (Lit.int .i64 r).wf = true) (w1 : (Lit.int .i64 c).wf = true) (w2 : (Lit.int .i64 b).wf = true) (w3 : (Lit.int .i64 p).wf = true) (x0 : (Lit.int .i64 r2).wf = true) (x1 : (Lit.int .i64 c2).wf = true) (x2 : (Lit.int .i64 b2).wf = true) (x3 : (Lit.int .i64 p2).wf = true) (y0 : (Lit.int .i64 r3).wf = true) (y1 : (Lit.int .i64 c3).wf = true) (y2 : (Lit.int .i64 b3).wf = true) (y3 : (Lit.int .i64 p3).wf = true) (w : World) :
    Calls Try.prog 4 #[vv r c b p, vv r2 c2 b2 p2, vv r3 c3 b3 p3] w fun e w' => e = .returned (.bool true) ∧ Below w.heap.size w w' := by
  cases h : (okV r c b p && okV r2 c2 b2 p2)
  · exact order_bad _ _ _ _ _ _ _ _ _ _ _ _ w h
  · rw [Bool.and_eq_true] at h; exact order_good _ _ _ _ _ _ _ _ _ _ _ _ w h.1 h.2
end Go.Proofs.Ytanceablbmgblaa.VecP
