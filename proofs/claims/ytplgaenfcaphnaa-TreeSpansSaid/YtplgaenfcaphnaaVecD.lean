/-
  Contract of vec.compare.
-/
import Derived.Test.YtplgaenfcaphnaaVecC
namespace Go.Proofs.Ytplgaenfcaphnaa.VecP
open Go.RowKit Go.Sort
set_option linter.unusedVariables false
set_option maxRecDepth 100000

/-- Which of two is better: less than 0, if the first. -/
def cmpV (r c b p r2 c2 b2 p2 : Int) : Int := if r = r2 then if c = c2 then if b = b2 then cmpI p p2 else cmpI b b2 else cmpI c c2 else cmpI r r2
theorem cmpI_self (a : Int) : cmpI a a = 0 := by simp [cmpI]

set_option maxHeartbeats 1000000 in
theorem compare_same (r c b p : Int) (w : World) :
    Calls Try.prog 73 #[vv r c b p, vv r c b p] w fun e w' => e = .returned (.int .i64 (cmpV r c b p r c b p)) ∧ Grew w w' := by
  have h : Hid (cmpV r c b p r c b p = 0) := Lib.hid (by simp [cmpV, cmpI])
  go_enter Try.func73, Try.ntmps73
  go_wp2
  go_ret
  exact ⟨by rw [h.out]; rfl, ((Grew.refl _).alloc _).alloc _⟩

set_option maxHeartbeats 2000000 in
theorem compare_apart0 (r c b p r2 c2 b2 p2 : Int) (w : World) (h : r ≠ r2) :
    Calls Try.prog 73 #[vv r c b p, vv r2 c2 b2 p2] w fun e w' => e = .returned (.int .i64 (cmpV r c b p r2 c2 b2 p2)) ∧ Grew w w' := by
  have mof0 := meth_of0
  have hv : Hid (cmpV r c b p r2 c2 b2 p2 = cmpI r r2) := Lib.hid (by simp [cmpV, h])
  have H : Hid ((r == r2) = false) := Lib.hid (by simpa using h)
  have H1 := H.out
  clear h
  go_enter Try.func73, Try.ntmps73
  go_wp2_with fail
  go_at_call 80
  (with_reducible refine (apart0 _ _ _ _ _ _ _ _ _ H.out).mono ?_)
  rintro e w1 ⟨rfl, hg1⟩
  have hb1 := hg1.below
  have hbs := hb1.size
  simp at hbs
  obtain ⟨hc, hf⟩ := bcell hb1
  have a0 : w1.cell? ⟨w.heap.size, 0, none⟩ = some (.int .i64 r) := by rw [hc _ _ (by first | (simp; done) | (simp; omega))]; go_simp
  have a1 : w1.cell? ⟨w.heap.size, 1, none⟩ = some (.int .i64 c) := by rw [hc _ _ (by first | (simp; done) | (simp; omega))]; go_simp
  have a2 : w1.cell? ⟨w.heap.size, 2, none⟩ = some (.int .i64 b) := by rw [hc _ _ (by first | (simp; done) | (simp; omega))]; go_simp
  have a3 : w1.cell? ⟨w.heap.size, 3, none⟩ = some (.int .i64 p) := by rw [hc _ _ (by first | (simp; done) | (simp; omega))]; go_simp
  have b0 : w1.cell? ⟨w.heap.size + 1, 0, none⟩ = some (.int .i64 r2) := by rw [hc _ _ (by first | (simp; done) | (simp; omega))]; go_simp
  have b1 : w1.cell? ⟨w.heap.size + 1, 1, none⟩ = some (.int .i64 c2) := by rw [hc _ _ (by first | (simp; done) | (simp; omega))]; go_simp
  have b2 : w1.cell? ⟨w.heap.size + 1, 2, none⟩ = some (.int .i64 b2) := by rw [hc _ _ (by first | (simp; done) | (simp; omega))]; go_simp
  have b3 : w1.cell? ⟨w.heap.size + 1, 3, none⟩ = some (.int .i64 p2) := by rw [hc _ _ (by first | (simp; done) | (simp; omega))]; go_simp
  have B1 : Grew w w1 := (((Grew.refl _).alloc _).alloc _).trans hg1
  clear hc hf hb1 hg1 H1
  have Ka0 := cell_grown (a := ⟨w.heap.size, 0, none⟩) (show w.heap.size < w1.heap.size by omega) a0
  have Ka1 := cell_grown (a := ⟨w.heap.size, 1, none⟩) (show w.heap.size < w1.heap.size by omega) a1
  have Ka2 := cell_grown (a := ⟨w.heap.size, 2, none⟩) (show w.heap.size < w1.heap.size by omega) a2
  have Ka3 := cell_grown (a := ⟨w.heap.size, 3, none⟩) (show w.heap.size < w1.heap.size by omega) a3
  have Kb0 := cell_grown (a := ⟨w.heap.size + 1, 0, none⟩) (show w.heap.size + 1 < w1.heap.size by omega) b0
  have Kb1 := cell_grown (a := ⟨w.heap.size + 1, 1, none⟩) (show w.heap.size + 1 < w1.heap.size by omega) b1
  have Kb2 := cell_grown (a := ⟨w.heap.size + 1, 2, none⟩) (show w.heap.size + 1 < w1.heap.size by omega) b2
  have Kb3 := cell_grown (a := ⟨w.heap.size + 1, 3, none⟩) (show w.heap.size + 1 < w1.heap.size by omega) b3
  clear a0 a1 a2 a3 b0 b1 b2 b3
  go_wp2_with fail
  refine wp_region_quiet_grown (by kernel_rfl) (by kernel_rfl) ?_
  have cO := fun (x0 x1 x2 x3 : Int) (d : Nat) (os : Array Obj) => Calls.grown_of ((of0_g x0 x1 x2 x3 (Go.Sort.grow (w1.drewN d) os)).mono fun _ _ ⟨h1, p, h2⟩ => ⟨h1, p.n, p.os, h2⟩)
  have cC := fun (x0 x1 : Int) (d : Nat) (os : Array Obj) => Calls.grown_of ((compare_int x0 x1 (Go.Sort.grow (w1.drewN d) os)).mono fun _ _ ⟨h1, h2⟩ => ⟨h1, 0, #[], by rw [← h2, Go.Sort.grow_empty]; rfl⟩)
  repeat (first | go_big_quiet_step (first | exact cO _ _ _ _ _ _ | exact cC _ _ _ _) | quiet_step (first | exact cO _ _ _ _ _ _ | exact cC _ _ _ _))
  refine wpQuiet_nil ?_
  intro _ hw'
  obtain ⟨⟨dq, osq⟩, hw''⟩ := hw'
  subst hw''
  have hb1 : Grew w1 (Go.Sort.grow (w1.drewN dq) osq) := ⟨⟨dq, osq⟩, rfl⟩
  clear Ka0 Ka1 Ka2 Ka3 Kb0 Kb1 Kb2 Kb3 cO cC
  clear hbs
  generalize Go.Sort.grow (w1.drewN dq) osq = w2 at *
  go_wp2_with fail
  go_ret
  exact ⟨by rw [hv.out]; rfl, B1.trans hb1⟩

set_option maxHeartbeats 2000000 in
theorem compare_apart1 (r c b p c2 b2 p2 : Int) (w : World) (h : c ≠ c2) :
    Calls Try.prog 73 #[vv r c b p, vv r c2 b2 p2] w fun e w' => e = .returned (.int .i64 (cmpV r c b p r c2 b2 p2)) ∧ Grew w w' := by
  have mof1 := meth_of1
  have hv : Hid (cmpV r c b p r c2 b2 p2 = cmpI c c2) := Lib.hid (by simp [cmpV, h])
  have H : Hid ((c == c2) = false) := Lib.hid (by simpa using h)
  have H1 := H.out
  clear h
  go_enter Try.func73, Try.ntmps73
  go_wp2_with fail
  go_at_call 80
  (with_reducible refine (apart1 _ _ _ _ _ _ _ _ H.out).mono ?_)
  rintro e w1 ⟨rfl, hg1⟩
  have hb1 := hg1.below
  have hbs := hb1.size
  simp at hbs
  obtain ⟨hc, hf⟩ := bcell hb1
  have a0 : w1.cell? ⟨w.heap.size, 0, none⟩ = some (.int .i64 r) := by rw [hc _ _ (by first | (simp; done) | (simp; omega))]; go_simp
  have a1 : w1.cell? ⟨w.heap.size, 1, none⟩ = some (.int .i64 c) := by rw [hc _ _ (by first | (simp; done) | (simp; omega))]; go_simp
  have a2 : w1.cell? ⟨w.heap.size, 2, none⟩ = some (.int .i64 b) := by rw [hc _ _ (by first | (simp; done) | (simp; omega))]; go_simp
  have a3 : w1.cell? ⟨w.heap.size, 3, none⟩ = some (.int .i64 p) := by rw [hc _ _ (by first | (simp; done) | (simp; omega))]; go_simp
  have b0 : w1.cell? ⟨w.heap.size + 1, 0, none⟩ = some (.int .i64 r) := by rw [hc _ _ (by first | (simp; done) | (simp; omega))]; go_simp
  have b1 : w1.cell? ⟨w.heap.size + 1, 1, none⟩ = some (.int .i64 c2) := by rw [hc _ _ (by first | (simp; done) | (simp; omega))]; go_simp
  have b2 : w1.cell? ⟨w.heap.size + 1, 2, none⟩ = some (.int .i64 b2) := by rw [hc _ _ (by first | (simp; done) | (simp; omega))]; go_simp
  have b3 : w1.cell? ⟨w.heap.size + 1, 3, none⟩ = some (.int .i64 p2) := by rw [hc _ _ (by first | (simp; done) | (simp; omega))]; go_simp
  have B1 : Grew w w1 := (((Grew.refl _).alloc _).alloc _).trans hg1
  clear hc hf hb1 hg1 H1
  have Ka0 := cell_grown (a := ⟨w.heap.size, 0, none⟩) (show w.heap.size < w1.heap.size by omega) a0
  have Ka1 := cell_grown (a := ⟨w.heap.size, 1, none⟩) (show w.heap.size < w1.heap.size by omega) a1
  have Ka2 := cell_grown (a := ⟨w.heap.size, 2, none⟩) (show w.heap.size < w1.heap.size by omega) a2
  have Ka3 := cell_grown (a := ⟨w.heap.size, 3, none⟩) (show w.heap.size < w1.heap.size by omega) a3
  have Kb0 := cell_grown (a := ⟨w.heap.size + 1, 0, none⟩) (show w.heap.size + 1 < w1.heap.size by omega) b0
  have Kb1 := cell_grown (a := ⟨w.heap.size + 1, 1, none⟩) (show w.heap.size + 1 < w1.heap.size by omega) b1
  have Kb2 := cell_grown (a := ⟨w.heap.size + 1, 2, none⟩) (show w.heap.size + 1 < w1.heap.size by omega) b2
  have Kb3 := cell_grown (a := ⟨w.heap.size + 1, 3, none⟩) (show w.heap.size + 1 < w1.heap.size by omega) b3
  clear a0 a1 a2 a3 b0 b1 b2 b3
  go_wp2_with fail
  refine wp_region_quiet_grown (by kernel_rfl) (by kernel_rfl) ?_
  have cO := fun (x0 x1 x2 x3 : Int) (d : Nat) (os : Array Obj) => Calls.grown_of ((of1_g x0 x1 x2 x3 (Go.Sort.grow (w1.drewN d) os)).mono fun _ _ ⟨h1, p, h2⟩ => ⟨h1, p.n, p.os, h2⟩)
  have cC := fun (x0 x1 : Int) (d : Nat) (os : Array Obj) => Calls.grown_of ((compare_int x0 x1 (Go.Sort.grow (w1.drewN d) os)).mono fun _ _ ⟨h1, h2⟩ => ⟨h1, 0, #[], by rw [← h2, Go.Sort.grow_empty]; rfl⟩)
  repeat (first | go_big_quiet_step (first | exact cO _ _ _ _ _ _ | exact cC _ _ _ _) | quiet_step (first | exact cO _ _ _ _ _ _ | exact cC _ _ _ _))
  refine wpQuiet_nil ?_
  intro _ hw'
  obtain ⟨⟨dq, osq⟩, hw''⟩ := hw'
  subst hw''
  have hb1 : Grew w1 (Go.Sort.grow (w1.drewN dq) osq) := ⟨⟨dq, osq⟩, rfl⟩
  clear Ka0 Ka1 Ka2 Ka3 Kb0 Kb1 Kb2 Kb3 cO cC
  clear hbs
  generalize Go.Sort.grow (w1.drewN dq) osq = w2 at *
  go_wp2_with fail
  go_ret
  exact ⟨by rw [hv.out]; rfl, B1.trans hb1⟩

set_option maxHeartbeats 2000000 in
theorem compare_apart2 (r c b p b2 p2 : Int) (w : World) (h : b ≠ b2) :
    Calls Try.prog 73 #[vv r c b p, vv r c b2 p2] w fun e w' => e = .returned (.int .i64 (cmpV r c b p r c b2 p2)) ∧ Grew w w' := by
  have mof2 := meth_of2
  have hv : Hid (cmpV r c b p r c b2 p2 = cmpI b b2) := Lib.hid (by simp [cmpV, h])
  have H : Hid ((b == b2) = false) := Lib.hid (by simpa using h)
  have H1 := H.out
  clear h
  go_enter Try.func73, Try.ntmps73
  go_wp2_with fail
  go_at_call 80
  (with_reducible refine (apart2 _ _ _ _ _ _ _ H.out).mono ?_)
  rintro e w1 ⟨rfl, hg1⟩
  have hb1 := hg1.below
  have hbs := hb1.size
  simp at hbs
  obtain ⟨hc, hf⟩ := bcell hb1
  have a0 : w1.cell? ⟨w.heap.size, 0, none⟩ = some (.int .i64 r) := by rw [hc _ _ (by first | (simp; done) | (simp; omega))]; go_simp
  have a1 : w1.cell? ⟨w.heap.size, 1, none⟩ = some (.int .i64 c) := by rw [hc _ _ (by first | (simp; done) | (simp; omega))]; go_simp
  have a2 : w1.cell? ⟨w.heap.size, 2, none⟩ = some (.int .i64 b) := by rw [hc _ _ (by first | (simp; done) | (simp; omega))]; go_simp
  have a3 : w1.cell? ⟨w.heap.size, 3, none⟩ = some (.int .i64 p) := by rw [hc _ _ (by first | (simp; done) | (simp; omega))]; go_simp
  have b0 : w1.cell? ⟨w.heap.size + 1, 0, none⟩ = some (.int .i64 r) := by rw [hc _ _ (by first | (simp; done) | (simp; omega))]; go_simp
  have b1 : w1.cell? ⟨w.heap.size + 1, 1, none⟩ = some (.int .i64 c) := by rw [hc _ _ (by first | (simp; done) | (simp; omega))]; go_simp
  have b2 : w1.cell? ⟨w.heap.size + 1, 2, none⟩ = some (.int .i64 b2) := by rw [hc _ _ (by first | (simp; done) | (simp; omega))]; go_simp
  have b3 : w1.cell? ⟨w.heap.size + 1, 3, none⟩ = some (.int .i64 p2) := by rw [hc _ _ (by first | (simp; done) | (simp; omega))]; go_simp
  have B1 : Grew w w1 := (((Grew.refl _).alloc _).alloc _).trans hg1
  clear hc hf hb1 hg1 H1
  have Ka0 := cell_grown (a := ⟨w.heap.size, 0, none⟩) (show w.heap.size < w1.heap.size by omega) a0
  have Ka1 := cell_grown (a := ⟨w.heap.size, 1, none⟩) (show w.heap.size < w1.heap.size by omega) a1
  have Ka2 := cell_grown (a := ⟨w.heap.size, 2, none⟩) (show w.heap.size < w1.heap.size by omega) a2
  have Ka3 := cell_grown (a := ⟨w.heap.size, 3, none⟩) (show w.heap.size < w1.heap.size by omega) a3
  have Kb0 := cell_grown (a := ⟨w.heap.size + 1, 0, none⟩) (show w.heap.size + 1 < w1.heap.size by omega) b0
  have Kb1 := cell_grown (a := ⟨w.heap.size + 1, 1, none⟩) (show w.heap.size + 1 < w1.heap.size by omega) b1
  have Kb2 := cell_grown (a := ⟨w.heap.size + 1, 2, none⟩) (show w.heap.size + 1 < w1.heap.size by omega) b2
  have Kb3 := cell_grown (a := ⟨w.heap.size + 1, 3, none⟩) (show w.heap.size + 1 < w1.heap.size by omega) b3
  clear a0 a1 a2 a3 b0 b1 b2 b3
  go_wp2_with fail
  refine wp_region_quiet_grown (by kernel_rfl) (by kernel_rfl) ?_
  have cO := fun (x0 x1 x2 x3 : Int) (d : Nat) (os : Array Obj) => Calls.grown_of ((of2_g x0 x1 x2 x3 (Go.Sort.grow (w1.drewN d) os)).mono fun _ _ ⟨h1, p, h2⟩ => ⟨h1, p.n, p.os, h2⟩)
  have cC := fun (x0 x1 : Int) (d : Nat) (os : Array Obj) => Calls.grown_of ((compare_int x0 x1 (Go.Sort.grow (w1.drewN d) os)).mono fun _ _ ⟨h1, h2⟩ => ⟨h1, 0, #[], by rw [← h2, Go.Sort.grow_empty]; rfl⟩)
  repeat (first | go_big_quiet_step (first | exact cO _ _ _ _ _ _ | exact cC _ _ _ _) | quiet_step (first | exact cO _ _ _ _ _ _ | exact cC _ _ _ _))
  refine wpQuiet_nil ?_
  intro _ hw'
  obtain ⟨⟨dq, osq⟩, hw''⟩ := hw'
  subst hw''
  have hb1 : Grew w1 (Go.Sort.grow (w1.drewN dq) osq) := ⟨⟨dq, osq⟩, rfl⟩
  clear Ka0 Ka1 Ka2 Ka3 Kb0 Kb1 Kb2 Kb3 cO cC
  clear hbs
  generalize Go.Sort.grow (w1.drewN dq) osq = w2 at *
  go_wp2_with fail
  go_ret
  exact ⟨by rw [hv.out]; rfl, B1.trans hb1⟩

set_option maxHeartbeats 2000000 in
theorem compare_apart3 (r c b p p2 : Int) (w : World) (h : p ≠ p2) :
    Calls Try.prog 73 #[vv r c b p, vv r c b p2] w fun e w' => e = .returned (.int .i64 (cmpV r c b p r c b p2)) ∧ Grew w w' := by
  have mof3 := meth_of3
  have hv : Hid (cmpV r c b p r c b p2 = cmpI p p2) := Lib.hid (by simp [cmpV])
  have H : Hid ((p == p2) = false) := Lib.hid (by simpa using h)
  have H1 := H.out
  clear h
  go_enter Try.func73, Try.ntmps73
  go_wp2_with fail
  go_at_call 80
  (with_reducible refine (apart3 _ _ _ _ _ _ H.out).mono ?_)
  rintro e w1 ⟨rfl, hg1⟩
  have hb1 := hg1.below
  have hbs := hb1.size
  simp at hbs
  obtain ⟨hc, hf⟩ := bcell hb1
  have a0 : w1.cell? ⟨w.heap.size, 0, none⟩ = some (.int .i64 r) := by rw [hc _ _ (by first | (simp; done) | (simp; omega))]; go_simp
  have a1 : w1.cell? ⟨w.heap.size, 1, none⟩ = some (.int .i64 c) := by rw [hc _ _ (by first | (simp; done) | (simp; omega))]; go_simp
  have a2 : w1.cell? ⟨w.heap.size, 2, none⟩ = some (.int .i64 b) := by rw [hc _ _ (by first | (simp; done) | (simp; omega))]; go_simp
  have a3 : w1.cell? ⟨w.heap.size, 3, none⟩ = some (.int .i64 p) := by rw [hc _ _ (by first | (simp; done) | (simp; omega))]; go_simp
  have b0 : w1.cell? ⟨w.heap.size + 1, 0, none⟩ = some (.int .i64 r) := by rw [hc _ _ (by first | (simp; done) | (simp; omega))]; go_simp
  have b1 : w1.cell? ⟨w.heap.size + 1, 1, none⟩ = some (.int .i64 c) := by rw [hc _ _ (by first | (simp; done) | (simp; omega))]; go_simp
  have b2 : w1.cell? ⟨w.heap.size + 1, 2, none⟩ = some (.int .i64 b) := by rw [hc _ _ (by first | (simp; done) | (simp; omega))]; go_simp
  have b3 : w1.cell? ⟨w.heap.size + 1, 3, none⟩ = some (.int .i64 p2) := by rw [hc _ _ (by first | (simp; done) | (simp; omega))]; go_simp
  have B1 : Grew w w1 := (((Grew.refl _).alloc _).alloc _).trans hg1
  clear hc hf hb1 hg1 H1
  have Ka0 := cell_grown (a := ⟨w.heap.size, 0, none⟩) (show w.heap.size < w1.heap.size by omega) a0
  have Ka1 := cell_grown (a := ⟨w.heap.size, 1, none⟩) (show w.heap.size < w1.heap.size by omega) a1
  have Ka2 := cell_grown (a := ⟨w.heap.size, 2, none⟩) (show w.heap.size < w1.heap.size by omega) a2
  have Ka3 := cell_grown (a := ⟨w.heap.size, 3, none⟩) (show w.heap.size < w1.heap.size by omega) a3
  have Kb0 := cell_grown (a := ⟨w.heap.size + 1, 0, none⟩) (show w.heap.size + 1 < w1.heap.size by omega) b0
  have Kb1 := cell_grown (a := ⟨w.heap.size + 1, 1, none⟩) (show w.heap.size + 1 < w1.heap.size by omega) b1
  have Kb2 := cell_grown (a := ⟨w.heap.size + 1, 2, none⟩) (show w.heap.size + 1 < w1.heap.size by omega) b2
  have Kb3 := cell_grown (a := ⟨w.heap.size + 1, 3, none⟩) (show w.heap.size + 1 < w1.heap.size by omega) b3
  clear a0 a1 a2 a3 b0 b1 b2 b3
  go_wp2_with fail
  refine wp_region_quiet_grown (by kernel_rfl) (by kernel_rfl) ?_
  have cO := fun (x0 x1 x2 x3 : Int) (d : Nat) (os : Array Obj) => Calls.grown_of ((of3_g x0 x1 x2 x3 (Go.Sort.grow (w1.drewN d) os)).mono fun _ _ ⟨h1, p, h2⟩ => ⟨h1, p.n, p.os, h2⟩)
  have cC := fun (x0 x1 : Int) (d : Nat) (os : Array Obj) => Calls.grown_of ((compare_int x0 x1 (Go.Sort.grow (w1.drewN d) os)).mono fun _ _ ⟨h1, h2⟩ => ⟨h1, 0, #[], by rw [← h2, Go.Sort.grow_empty]; rfl⟩)
  repeat (first | go_big_quiet_step (first | exact cO _ _ _ _ _ _ | exact cC _ _ _ _) | quiet_step (first | exact cO _ _ _ _ _ _ | exact cC _ _ _ _))
  refine wpQuiet_nil ?_
  intro _ hw'
  obtain ⟨⟨dq, osq⟩, hw''⟩ := hw'
  subst hw''
  have hb1 : Grew w1 (Go.Sort.grow (w1.drewN dq) osq) := ⟨⟨dq, osq⟩, rfl⟩
  clear Ka0 Ka1 Ka2 Ka3 Kb0 Kb1 Kb2 Kb3 cO cC
  clear hbs
  generalize Go.Sort.grow (w1.drewN dq) osq = w2 at *
  go_wp2_with fail
  go_ret
  exact ⟨by rw [hv.out]; rfl, B1.trans hb1⟩

theorem compare_grew (r c b p r2 c2 b2 p2 : Int) (w : World) :
    Calls Try.prog 73 #[vv r c b p, vv r2 c2 b2 p2] w fun e w' => e = .returned (.int .i64 (cmpV r c b p r2 c2 b2 p2)) ∧ Grew w w' := by
  by_cases h0 : r = r2
  · subst h0
    by_cases h1 : c = c2
    · subst h1
      by_cases h2 : b = b2
      · subst h2
        by_cases h3 : p = p2
        · subst h3; exact compare_same _ _ _ _ _
        · exact compare_apart3 _ _ _ _ _ _ h3
      · exact compare_apart2 _ _ _ _ _ _ _ h2
    · exact compare_apart1 _ _ _ _ _ _ _ _ h1
  · exact compare_apart0 _ _ _ _ _ _ _ _ _ h0
theorem compare_any (r c b p r2 c2 b2 p2 : Int) (w : World) :
    Calls Try.prog 73 #[vv r c b p, vv r2 c2 b2 p2] w fun e w' => e = .returned (.int .i64 (cmpV r c b p r2 c2 b2 p2)) ∧ Below w.heap.size w w' :=
  (compare_grew r c b p r2 c2 b2 p2 w).mono fun _ _ ⟨h1, h2⟩ => ⟨h1, h2.below⟩

end Go.Proofs.Ytplgaenfcaphnaa.VecP
