/-
  Contracts of vec.Better, Far, and of the statements' alive.
-/
import Derived.Test.YtplgaenfcaphnaaVecD
namespace Go.Proofs.Ytplgaenfcaphnaa.VecP
open Go.RowKit Go.Sort
set_option linter.unusedVariables false
set_option maxRecDepth 100000

/-- Is the first better? -/
def betB (r c b p r2 c2 b2 p2 : Int) : Bool := decide (cmpV r c b p r2 c2 b2 p2 < 0)

theorem right_is (r c b p : Int) (x : Bool) (h : okV r c b p = x) (w : World) :
    Calls Try.prog 78 #[vv r c b p] w fun e w' => e = .returned (.bool x) ∧ Below w.heap.size w w' := by
  subst h; exact right_any r c b p w
theorem cell4 {w w1 : World} {B b : Nat} {v0 v1 v2 v3 : Value} (hb : Below B w w1) (h : b < B) (h0 : w.cell? ⟨b, 0, none⟩ = some v0) (h1 : w.cell? ⟨b, 1, none⟩ = some v1) (h2 : w.cell? ⟨b, 2, none⟩ = some v2) (h3 : w.cell? ⟨b, 3, none⟩ = some v3) :
    w1.cell? ⟨b, 0, none⟩ = some v0 ∧ w1.cell? ⟨b, 1, none⟩ = some v1 ∧ w1.cell? ⟨b, 2, none⟩ = some v2 ∧ w1.cell? ⟨b, 3, none⟩ = some v3 :=
  ⟨(hb.cell (p := ⟨b, 0, none⟩) h).trans h0, (hb.cell (p := ⟨b, 1, none⟩) h).trans h1, (hb.cell (p := ⟨b, 2, none⟩) h).trans h2, (hb.cell (p := ⟨b, 3, none⟩) h).trans h3⟩

set_option maxHeartbeats 1000000 in
theorem far_bad1 (r c b p n : Int) (w : World) (h : okV r c b p = false) :
    Calls Try.prog 71 #[vv r c b p, .int .i64 n] w fun e w' => e = .returned (.tuple #[vv 0 0 0 0, .int .i64 1]) ∧ Below w.heap.size w w' := by
  have H := Lib.hid h
  clear h
  go_enter Try.func71, Try.ntmps71
  go_wp2_with fail
  go_at_call 78
  (with_reducible refine (right_is _ _ _ _ _ H.out _).mono ?_)
  rintro e w1 ⟨rfl, hb1⟩
  obtain ⟨hc, hf⟩ := bcell hb1
  obtain ⟨a0, a1, a2, a3⟩ := cell4 (b := w.heap.size) (v0 := .int .i64 r) (v1 := .int .i64 c) (v2 := .int .i64 b) (v3 := .int .i64 p) hb1 (by simp; omega) (by go_simp) (by go_simp) (by go_simp) (by go_simp)
  obtain ⟨b0, b1, b2', b3⟩ := cell4 (b := w.heap.size + 1) (v0 := .int .i64 0) (v1 := .int .i64 0) (v2 := .int .i64 0) (v3 := .int .i64 0) hb1 (by simp) (by go_simp) (by go_simp) (by go_simp) (by go_simp)
  have f0 : w1.frozen? ⟨w.heap.size, 1, none⟩ = false := by rw [hf _ _ (by first | (simp; done) | (simp; omega))]; go_simp
  have g0 : w1.frozen? ⟨w.heap.size + 1, 0, none⟩ = false := by rw [hf _ _ (by simp)]; go_simp
  have g1 : w1.frozen? ⟨w.heap.size + 1, 1, none⟩ = false := by rw [hf _ _ (by simp)]; go_simp
  have g2 : w1.frozen? ⟨w.heap.size + 1, 2, none⟩ = false := by rw [hf _ _ (by simp)]; go_simp
  have g3 : w1.frozen? ⟨w.heap.size + 1, 3, none⟩ = false := by rw [hf _ _ (by simp)]; go_simp
  have B1 : Below w.heap.size w w1 := (((Below.refl _ _).alloc (Nat.le_refl _) _).alloc (by simp) _).trans (hb1.mono (by simp; omega))
  clear hb1 hc hf
  go_wp2_with fail
  refine bodyPost_ret (v := .tuple #[vv 0 0 0 0, .int .i64 1]) (by simp [results, Try.results71, go_sem, b0, b1, b2', b3]) rfl ⟨rfl, ?_⟩
  repeat (first | with_reducible assumption | refine Below.setCell ?_ (by first | omega | (simp; done) | (simp; omega)) _)

set_option maxHeartbeats 1000000 in
theorem far_bad2 (r c b p n : Int) (w : World) (h : okV r c b p = true) (h2 : inB n 2147483647 = false) :
    Calls Try.prog 71 #[vv r c b p, .int .i64 n] w fun e w' => e = .returned (.tuple #[vv 0 0 0 0, .int .i64 1]) ∧ Below w.heap.size w w' := by
  have H := Lib.hid h
  have H2 := Lib.hid h2
  clear h h2
  go_enter Try.func71, Try.ntmps71
  go_wp2_with fail
  go_at_call 78
  (with_reducible refine (right_is _ _ _ _ _ H.out _).mono ?_)
  rintro e w1 ⟨rfl, hb1⟩
  obtain ⟨hc, hf⟩ := bcell hb1
  obtain ⟨a0, a1, a2, a3⟩ := cell4 (b := w.heap.size) (v0 := .int .i64 r) (v1 := .int .i64 c) (v2 := .int .i64 b) (v3 := .int .i64 p) hb1 (by simp; omega) (by go_simp) (by go_simp) (by go_simp) (by go_simp)
  obtain ⟨b0, b1, b2', b3⟩ := cell4 (b := w.heap.size + 1) (v0 := .int .i64 0) (v1 := .int .i64 0) (v2 := .int .i64 0) (v3 := .int .i64 0) hb1 (by simp) (by go_simp) (by go_simp) (by go_simp) (by go_simp)
  have f0 : w1.frozen? ⟨w.heap.size, 1, none⟩ = false := by rw [hf _ _ (by first | (simp; done) | (simp; omega))]; go_simp
  have g0 : w1.frozen? ⟨w.heap.size + 1, 0, none⟩ = false := by rw [hf _ _ (by simp)]; go_simp
  have g1 : w1.frozen? ⟨w.heap.size + 1, 1, none⟩ = false := by rw [hf _ _ (by simp)]; go_simp
  have g2 : w1.frozen? ⟨w.heap.size + 1, 2, none⟩ = false := by rw [hf _ _ (by simp)]; go_simp
  have g3 : w1.frozen? ⟨w.heap.size + 1, 3, none⟩ = false := by rw [hf _ _ (by simp)]; go_simp
  have B1 : Below w.heap.size w w1 := (((Below.refl _ _).alloc (Nat.le_refl _) _).alloc (by simp) _).trans (hb1.mono (by simp; omega))
  clear hb1 hc hf
  go_wp2_with fail
  go_at_call 79
  (with_reducible refine (within_is _ _ _ H2.out _).mono ?_)
  rintro e w2 ⟨rfl, rfl⟩
  go_wp2_with fail
  refine bodyPost_ret (v := .tuple #[vv 0 0 0 0, .int .i64 1]) (by simp [results, Try.results71, go_sem, b0, b1, b2', b3]) rfl ⟨rfl, ?_⟩
  repeat (first | with_reducible assumption | refine Below.setCell ?_ (by first | omega | (simp; done) | (simp; omega)) _)

theorem far_min (c n : Int) (h : inB c 2147483647 = true) (h2 : inB n 2147483647 = true) : 0 ≤ c ∧ c ≤ 2147483647 ∧ 0 ≤ n ∧ n ≤ 2147483647 := by
  simp [inB] at h h2; omega
theorem okV_cost {r c b p : Int} (h : okV r c b p = true) : inB c 2147483647 = true := by
  simp only [okV, Bool.and_eq_true] at h; exact h.1.1.2

set_option maxHeartbeats 1000000 in
theorem far_good (r c b p n : Int) (w : World) (h : okV r c b p = true) (h2 : inB n 2147483647 = true) :
    Calls Try.prog 71 #[vv r c b p, .int .i64 n] w fun e w' => e = .returned (.tuple #[vv r (min (c + n) 2147483647) b p, .int .i64 0]) ∧ Below w.heap.size w w' := by
  obtain ⟨n0, n1, n2, n3⟩ := far_min c n (okV_cost h) h2
  have H := Lib.hid h
  have H2 := Lib.hid h2
  clear h h2
  go_enter Try.func71, Try.ntmps71
  go_wp2_with fail
  go_at_call 78
  (with_reducible refine (right_is _ _ _ _ _ H.out _).mono ?_)
  rintro e w1 ⟨rfl, hb1⟩
  obtain ⟨hc, hf⟩ := bcell hb1
  obtain ⟨a0, a1, a2, a3⟩ := cell4 (b := w.heap.size) (v0 := .int .i64 r) (v1 := .int .i64 c) (v2 := .int .i64 b) (v3 := .int .i64 p) hb1 (by simp; omega) (by go_simp) (by go_simp) (by go_simp) (by go_simp)
  obtain ⟨b0, b1, b2', b3⟩ := cell4 (b := w.heap.size + 1) (v0 := .int .i64 0) (v1 := .int .i64 0) (v2 := .int .i64 0) (v3 := .int .i64 0) hb1 (by simp) (by go_simp) (by go_simp) (by go_simp) (by go_simp)
  have f0 : w1.frozen? ⟨w.heap.size, 1, none⟩ = false := by rw [hf _ _ (by first | (simp; done) | (simp; omega))]; go_simp
  have g0 : w1.frozen? ⟨w.heap.size + 1, 0, none⟩ = false := by rw [hf _ _ (by simp)]; go_simp
  have g1 : w1.frozen? ⟨w.heap.size + 1, 1, none⟩ = false := by rw [hf _ _ (by simp)]; go_simp
  have g2 : w1.frozen? ⟨w.heap.size + 1, 2, none⟩ = false := by rw [hf _ _ (by simp)]; go_simp
  have g3 : w1.frozen? ⟨w.heap.size + 1, 3, none⟩ = false := by rw [hf _ _ (by simp)]; go_simp
  have B1 : Below w.heap.size w w1 := (((Below.refl _ _).alloc (Nat.le_refl _) _).alloc (by simp) _).trans (hb1.mono (by simp; omega))
  clear hb1 hc hf
  go_wp2_with fail
  go_at_call 79
  (with_reducible refine (within_is _ _ _ H2.out _).mono ?_)
  rintro e w2 ⟨rfl, rfl⟩
  go_wp2_with fail
  · have hm : min (c + n) 2147483647 = 2147483647 := by omega
    refine bodyPost_ret (v := .tuple #[vv r 2147483647 b p, .int .i64 0]) (by simp [results, Try.results71, go_sem, b0, b1, b2', b3]) rfl ⟨by rw [hm], ?_⟩
    repeat (first | with_reducible assumption | refine Below.setCell ?_ (by first | omega | (simp; done) | (simp; omega)) _)
  · have hm : min (c + n) 2147483647 = c + n := by omega
    refine bodyPost_ret (v := .tuple #[vv r (c + n) b p, .int .i64 0]) (by simp [results, Try.results71, go_sem, b0, b1, b2', b3]) rfl ⟨by rw [hm], ?_⟩
    repeat (first | with_reducible assumption | refine Below.setCell ?_ (by first | omega | (simp; done) | (simp; omega)) _)
end Go.Proofs.Ytplgaenfcaphnaa.VecP
