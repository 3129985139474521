/-
  Walks of FrameTells.
-/
import Derived.Test.YtjmmdlnhallkpaaFrameG
import Derived.Test.YtjmmdlnhallkpaaFrameH
import Derived.Deep.RegionWith
import Derived.Deep.Cut
import Derived.Lib.QuietBelow
import Derived.BigQuiet
namespace Go.Proofs.Ytjmmdlnhallkpaa.MacP
open Go.RowKit Go.Sort
set_option linter.unusedVariables false

set_option maxRecDepth 100000 in
set_option maxHeartbeats 2000000 in
theorem frameTells_yn (d s t : Int) (x r : ByteArray) (w : World) (n : Int) (hx : x.size ≤ maxLen) (hr : r.size ≤ maxLen) (ok : okB d s t (cutS x 130) = true) (rk : pE (cutS r 150) = n) (hn : n ≠ 0) :
    Calls Try.prog 7 #[fv d s t x, .string r] w fun e w' => e = .returned (.bool true) ∧ Below w.heap.size w w' := by
  have HX := Lib.hid hx
  have hr' : r.size ≤ 9223372036854775807 := by unfold maxLen at hr; omega
  have m0 := cutS_size x 130
  have m1 : Hid ((cutS x 130).size ≤ maxLen) := Lib.hid (by unfold maxLen; omega)
  have m2 : Hid ((cutS r 150).size ≤ maxLen) := Lib.hid (by have := cutS_size r 150; unfold maxLen; omega)
  have p1 : (0 : Int) ≤ min (r.size : Int) 150 := by omega
  have p2 : min (r.size : Int) 150 ≤ (r.size : Int) := by omega
  have p3 : r.extract 0 (min (r.size : Int) 150).toNat = cutS r 150 := rfl
  have OK := Lib.hid ok
  have RK := Lib.hid rk
  have HN := Lib.hid hn
  have hn' : (n != 0) = true := by simpa using hn
  have hn'' : (n == 0) = false := by simpa using hn
  have hz : ((pBytes d s t (cutS x 130)).size : Int) = 14 + ((cutS x 130).size : Int) := by rw [pBytes_size]; omega
  clear hx hr ok rk hn
  go_enter Try.func7, Try.ntmps7
  go_upto_region 1 with fail
  go_cut [1] from 15 (fun s1 wx => s1 = .string (cutS r 150) ∧ PB w d s t (cutS x 130) wx)
  case first =>
    clear OK RK m1 m2 HN hn' hn''
    go_region_with ((go_at_call 23; (with_reducible refine (few_any _ _ _ _ _ HX.out).mono ?_); rintro e w1 ⟨rfl, hb1⟩; obtain ⟨hc1, hf1⟩ := bcell hb1; have z1a : w.heap.size < w1.heap.size := by (have := hb1.size; simp at this; omega)))
    all_goals (go_wp2_with fail; go_meet)
    all_goals
      refine ⟨rfl, by go_simp, by go_simp, by go_simp, by go_simp, by simp; omega, ?_⟩
      repeat (first | exact ((Below.drew ((Below.refl _ _).alloc (Nat.le_refl _) _)).trans (hb1.mono (by simp))) | apply Below.drew | refine Below.setCell ?_ (by simp) _)
      done
  case rest =>
  clear p1 p2 p3 hr'
  obtain ⟨rfl, hp⟩ := hcut
  generalize cutS x 130 = y at *
  generalize cutS r 150 = r' at *
  obtain ⟨a0, a1, a2, a3, za, B1⟩ := hp
  go_wp2_with fail
  go_at_call 24
  (with_reducible refine (fprint_yes _ _ _ _ _ OK.out).mono ?_)
  rintro e w2 ⟨rfl, hb2⟩
  obtain ⟨hc, hf⟩ := bcell hb2
  have zc : w.heap.size < w2.heap.size := Nat.lt_of_lt_of_le (by first | with_reducible assumption | (simp; done) | (simp; omega)) hb2.size
  have c0 : w2.cell? ⟨w.heap.size, 0, none⟩ = some (.int .i64 d) := by rw [hc _ _ (by first | with_reducible assumption | omega | (simp; done) | (simp; omega))]; go_simp
  have c1 : w2.cell? ⟨w.heap.size, 1, none⟩ = some (.int .i64 s) := by rw [hc _ _ (by first | with_reducible assumption | omega | (simp; done) | (simp; omega))]; go_simp
  have c2 : w2.cell? ⟨w.heap.size, 2, none⟩ = some (.int .i64 t) := by rw [hc _ _ (by first | with_reducible assumption | omega | (simp; done) | (simp; omega))]; go_simp
  have c3 : w2.cell? ⟨w.heap.size, 3, none⟩ = some (.string y) := by rw [hc _ _ (by first | with_reducible assumption | omega | (simp; done) | (simp; omega))]; go_simp
  have B2 : Below w.heap.size w w2 := by
    refine Below.trans ?_ (hb2.mono (by first | with_reducible exact Nat.le_of_lt (by assumption) | (simp; omega)))
    repeat (first | with_reducible assumption | apply Below.drew | refine Below.setCell ?_ (by first | omega | (simp; done) | (simp; omega)) _ | refine Below.alloc ?_ (by first | omega | (simp; done) | (simp; omega)) _)
  clear hc hf hb2 a0 a1 a2 a3
  go_wp2_with fail
  go_at_call 25
  (with_reducible refine (fsize_yes _ _ _ _ _ OK.out).mono ?_)
  rintro e w3 ⟨rfl, hb3⟩
  obtain ⟨hc, hf⟩ := bcell hb3
  have za : w.heap.size < w3.heap.size := Nat.lt_of_lt_of_le (by first | with_reducible assumption | (simp; done) | (simp; omega)) hb3.size
  have a0 : w3.cell? ⟨w.heap.size, 0, none⟩ = some (.int .i64 d) := by rw [hc _ _ (by first | with_reducible assumption | omega | (simp; done) | (simp; omega))]; go_simp
  have a1 : w3.cell? ⟨w.heap.size, 1, none⟩ = some (.int .i64 s) := by rw [hc _ _ (by first | with_reducible assumption | omega | (simp; done) | (simp; omega))]; go_simp
  have a2 : w3.cell? ⟨w.heap.size, 2, none⟩ = some (.int .i64 t) := by rw [hc _ _ (by first | with_reducible assumption | omega | (simp; done) | (simp; omega))]; go_simp
  have a3 : w3.cell? ⟨w.heap.size, 3, none⟩ = some (.string y) := by rw [hc _ _ (by first | with_reducible assumption | omega | (simp; done) | (simp; omega))]; go_simp
  have B3 : Below w.heap.size w w3 := by
    refine Below.trans ?_ (hb3.mono (by first | with_reducible exact Nat.le_of_lt (by assumption) | (simp; omega)))
    repeat (first | with_reducible assumption | apply Below.drew | refine Below.setCell ?_ (by first | omega | (simp; done) | (simp; omega)) _ | refine Below.alloc ?_ (by first | omega | (simp; done) | (simp; omega)) _)
  clear hc hf hb3 c0 c1 c2 c3
  go_wp2_with fail
  go_at_call 26
  (with_reducible refine (fparse_bad _ n _ m2.out RK.out HN.out).mono ?_)
  rintro e w4 ⟨rfl, hb4⟩
  obtain ⟨hc, hf⟩ := bcell hb4
  have zc : w.heap.size < w4.heap.size := Nat.lt_of_lt_of_le (by first | with_reducible assumption | (simp; done) | (simp; omega)) hb4.size
  have c0 : w4.cell? ⟨w.heap.size, 0, none⟩ = some (.int .i64 d) := by rw [hc _ _ (by first | with_reducible assumption | omega | (simp; done) | (simp; omega))]; go_simp
  have c1 : w4.cell? ⟨w.heap.size, 1, none⟩ = some (.int .i64 s) := by rw [hc _ _ (by first | with_reducible assumption | omega | (simp; done) | (simp; omega))]; go_simp
  have c2 : w4.cell? ⟨w.heap.size, 2, none⟩ = some (.int .i64 t) := by rw [hc _ _ (by first | with_reducible assumption | omega | (simp; done) | (simp; omega))]; go_simp
  have c3 : w4.cell? ⟨w.heap.size, 3, none⟩ = some (.string y) := by rw [hc _ _ (by first | with_reducible assumption | omega | (simp; done) | (simp; omega))]; go_simp
  have B4 : Below w.heap.size w w4 := by
    refine Below.trans ?_ (hb4.mono (by first | with_reducible exact Nat.le_of_lt (by assumption) | (simp; omega)))
    repeat (first | with_reducible assumption | apply Below.drew | refine Below.setCell ?_ (by first | omega | (simp; done) | (simp; omega)) _ | refine Below.alloc ?_ (by first | omega | (simp; done) | (simp; omega)) _)
  clear hc hf hb4 a0 a1 a2 a3
  go_wp2_with fail
  go_at_call 27
  (with_reducible refine (kind_bad _ n _ m2.out RK.out HN.out).mono ?_)
  rintro e w5 ⟨rfl, hb5⟩
  obtain ⟨hc, hf⟩ := bcell hb5
  have za : w.heap.size < w5.heap.size := Nat.lt_of_lt_of_le (by first | with_reducible assumption | (simp; done) | (simp; omega)) hb5.size
  have zg : w4.heap.size < w5.heap.size := Nat.lt_of_lt_of_le (by first | with_reducible assumption | (simp; done) | (simp; omega)) hb5.size
  have a0 : w5.cell? ⟨w.heap.size, 0, none⟩ = some (.int .i64 d) := by rw [hc _ _ (by first | with_reducible assumption | omega | (simp; done) | (simp; omega))]; go_simp
  have a1 : w5.cell? ⟨w.heap.size, 1, none⟩ = some (.int .i64 s) := by rw [hc _ _ (by first | with_reducible assumption | omega | (simp; done) | (simp; omega))]; go_simp
  have a2 : w5.cell? ⟨w.heap.size, 2, none⟩ = some (.int .i64 t) := by rw [hc _ _ (by first | with_reducible assumption | omega | (simp; done) | (simp; omega))]; go_simp
  have a3 : w5.cell? ⟨w.heap.size, 3, none⟩ = some (.string y) := by rw [hc _ _ (by first | with_reducible assumption | omega | (simp; done) | (simp; omega))]; go_simp
  have g0 : w5.cell? ⟨w4.heap.size, 0, none⟩ = some (.int .i64 0) := by rw [hc _ _ (by first | with_reducible assumption | omega | (simp; done) | (simp; omega))]; go_simp
  have g1 : w5.cell? ⟨w4.heap.size, 1, none⟩ = some (.int .i64 0) := by rw [hc _ _ (by first | with_reducible assumption | omega | (simp; done) | (simp; omega))]; go_simp
  have g2 : w5.cell? ⟨w4.heap.size, 2, none⟩ = some (.int .i64 0) := by rw [hc _ _ (by first | with_reducible assumption | omega | (simp; done) | (simp; omega))]; go_simp
  have g3 : w5.cell? ⟨w4.heap.size, 3, none⟩ = some (.string ⟨#[]⟩) := by rw [hc _ _ (by first | with_reducible assumption | omega | (simp; done) | (simp; omega))]; go_simp
  have B5 : Below w.heap.size w w5 := by
    refine Below.trans ?_ (hb5.mono (by first | with_reducible exact Nat.le_of_lt (by assumption) | (simp; omega)))
    repeat (first | with_reducible assumption | apply Below.drew | refine Below.setCell ?_ (by first | omega | (simp; done) | (simp; omega)) _ | refine Below.alloc ?_ (by first | omega | (simp; done) | (simp; omega)) _)
  clear hc hf hb5 c0 c1 c2 c3
  go_wp2_with fail
  go_at_call 28
  (with_reducible refine (ref_fparse_bad _ n _ m2.out RK.out HN.out).mono ?_)
  rintro e w6 ⟨rfl, hb6⟩
  obtain ⟨hc, hf⟩ := bcell hb6
  have zc : w.heap.size < w6.heap.size := Nat.lt_of_lt_of_le (by first | with_reducible assumption | (simp; done) | (simp; omega)) hb6.size
  have zh : w4.heap.size < w6.heap.size := Nat.lt_of_lt_of_le (by first | with_reducible assumption | (simp; done) | (simp; omega)) hb6.size
  have c0 : w6.cell? ⟨w.heap.size, 0, none⟩ = some (.int .i64 d) := by rw [hc _ _ (by first | with_reducible assumption | omega | (simp; done) | (simp; omega))]; go_simp
  have c1 : w6.cell? ⟨w.heap.size, 1, none⟩ = some (.int .i64 s) := by rw [hc _ _ (by first | with_reducible assumption | omega | (simp; done) | (simp; omega))]; go_simp
  have c2 : w6.cell? ⟨w.heap.size, 2, none⟩ = some (.int .i64 t) := by rw [hc _ _ (by first | with_reducible assumption | omega | (simp; done) | (simp; omega))]; go_simp
  have c3 : w6.cell? ⟨w.heap.size, 3, none⟩ = some (.string y) := by rw [hc _ _ (by first | with_reducible assumption | omega | (simp; done) | (simp; omega))]; go_simp
  have h0 : w6.cell? ⟨w4.heap.size, 0, none⟩ = some (.int .i64 0) := by rw [hc _ _ (by first | with_reducible assumption | omega | (simp; done) | (simp; omega))]; go_simp
  have h1 : w6.cell? ⟨w4.heap.size, 1, none⟩ = some (.int .i64 0) := by rw [hc _ _ (by first | with_reducible assumption | omega | (simp; done) | (simp; omega))]; go_simp
  have h2 : w6.cell? ⟨w4.heap.size, 2, none⟩ = some (.int .i64 0) := by rw [hc _ _ (by first | with_reducible assumption | omega | (simp; done) | (simp; omega))]; go_simp
  have h3 : w6.cell? ⟨w4.heap.size, 3, none⟩ = some (.string ⟨#[]⟩) := by rw [hc _ _ (by first | with_reducible assumption | omega | (simp; done) | (simp; omega))]; go_simp
  have B6 : Below w.heap.size w w6 := by
    refine Below.trans ?_ (hb6.mono (by first | with_reducible exact Nat.le_of_lt (by assumption) | (simp; omega)))
    repeat (first | with_reducible assumption | apply Below.drew | refine Below.setCell ?_ (by first | omega | (simp; done) | (simp; omega)) _ | refine Below.alloc ?_ (by first | omega | (simp; done) | (simp; omega)) _)
  clear hc hf hb6 a0 a1 a2 a3 g0 g1 g2 g3
  go_upto_region 7 with fail
  have zz1 : w.heap.size < (w6.alloc (.cells #[.int .i64 0, .int .i64 0, .int .i64 0, .string ⟨#[]⟩] 38)).heap.size := by simp; omega
  have zz2 : w4.heap.size < (w6.alloc (.cells #[.int .i64 0, .int .i64 0, .int .i64 0, .string ⟨#[]⟩] 38)).heap.size := by simp; omega
  have zz3 : w6.heap.size < (w6.alloc (.cells #[.int .i64 0, .int .i64 0, .int .i64 0, .string ⟨#[]⟩] 38)).heap.size := by simp
  have a0 : (w6.alloc (.cells #[.int .i64 0, .int .i64 0, .int .i64 0, .string ⟨#[]⟩] 38)).cell? ⟨w.heap.size, 0, none⟩ = some (.int .i64 d) := by go_simp
  have a1 : (w6.alloc (.cells #[.int .i64 0, .int .i64 0, .int .i64 0, .string ⟨#[]⟩] 38)).cell? ⟨w.heap.size, 1, none⟩ = some (.int .i64 s) := by go_simp
  have a2 : (w6.alloc (.cells #[.int .i64 0, .int .i64 0, .int .i64 0, .string ⟨#[]⟩] 38)).cell? ⟨w.heap.size, 2, none⟩ = some (.int .i64 t) := by go_simp
  have a3 : (w6.alloc (.cells #[.int .i64 0, .int .i64 0, .int .i64 0, .string ⟨#[]⟩] 38)).cell? ⟨w.heap.size, 3, none⟩ = some (.string y) := by go_simp
  have g0 : (w6.alloc (.cells #[.int .i64 0, .int .i64 0, .int .i64 0, .string ⟨#[]⟩] 38)).cell? ⟨w4.heap.size, 0, none⟩ = some (.int .i64 0) := by go_simp
  have g1 : (w6.alloc (.cells #[.int .i64 0, .int .i64 0, .int .i64 0, .string ⟨#[]⟩] 38)).cell? ⟨w4.heap.size, 1, none⟩ = some (.int .i64 0) := by go_simp
  have g2 : (w6.alloc (.cells #[.int .i64 0, .int .i64 0, .int .i64 0, .string ⟨#[]⟩] 38)).cell? ⟨w4.heap.size, 2, none⟩ = some (.int .i64 0) := by go_simp
  have g3 : (w6.alloc (.cells #[.int .i64 0, .int .i64 0, .int .i64 0, .string ⟨#[]⟩] 38)).cell? ⟨w4.heap.size, 3, none⟩ = some (.string ⟨#[]⟩) := by go_simp
  have i0 : (w6.alloc (.cells #[.int .i64 0, .int .i64 0, .int .i64 0, .string ⟨#[]⟩] 38)).cell? ⟨w6.heap.size, 0, none⟩ = some (.int .i64 0) := by go_simp
  have i1 : (w6.alloc (.cells #[.int .i64 0, .int .i64 0, .int .i64 0, .string ⟨#[]⟩] 38)).cell? ⟨w6.heap.size, 1, none⟩ = some (.int .i64 0) := by go_simp
  have i2 : (w6.alloc (.cells #[.int .i64 0, .int .i64 0, .int .i64 0, .string ⟨#[]⟩] 38)).cell? ⟨w6.heap.size, 2, none⟩ = some (.int .i64 0) := by go_simp
  have i3 : (w6.alloc (.cells #[.int .i64 0, .int .i64 0, .int .i64 0, .string ⟨#[]⟩] 38)).cell? ⟨w6.heap.size, 3, none⟩ = some (.string ⟨#[]⟩) := by go_simp
  have B7 : Below w.heap.size w (w6.alloc (.cells #[.int .i64 0, .int .i64 0, .int .i64 0, .string ⟨#[]⟩] 38)) := B6.alloc (by omega) _
  clear c0 c1 c2 c3 h0 h1 h2 h3
  generalize (w6.alloc (.cells #[.int .i64 0, .int .i64 0, .int .i64 0, .string ⟨#[]⟩] 38)) = W at *
  have Ka0 := cell_regrown a0
  have Ka1 := cell_regrown a1
  have Ka2 := cell_regrown a2
  have Ka3 := cell_regrown a3
  have Kg0 := cell_regrown g0
  have Kg1 := cell_regrown g1
  have Kg2 := cell_regrown g2
  have Kg3 := cell_regrown g3
  have Ki0 := cell_regrown i0
  have Ki1 := cell_regrown i1
  have Ki2 := cell_regrown i2
  have Ki3 := cell_regrown i3
  have cR : ∀ q os, Calls Try.prog 29 #[fv d s t y] (grow (redrawn W q) os) fun e w'' => e = .returned (.bool true) ∧ ∃ p : Regrown, w'' = grow (redrawn W p.d) p.os := fun q os => Calls.regrown_of (fright_is _ _ _ _ true OK.out _ m1.out)
  have cS : ∀ q os, Calls Try.prog 30 #[fv d s t y] (grow (redrawn W q) os) fun e w'' => e = .returned (.bool true) ∧ ∃ p : Regrown, w'' = grow (redrawn W p.d) p.os := fun q os => Calls.regrown_of (ref_fright_is _ _ _ _ true OK.out _ m1.out)
  have cA : ∀ q os, Calls Try.prog 31 #[] (grow (redrawn W q) os) fun e w'' => e = .returned (.bool true) ∧ ∃ p : Regrown, w'' = grow (redrawn W p.d) p.os := fun q os => Calls.regrown_of (falive_any _)
  refine wp_region_quiet_below (by kernel_rfl) (by kernel_rfl) ?_
  repeat (first | go_big_quiet_step (first | exact cR _ _ | exact cS _ _ | exact cA _ _) | quiet_step (first | exact cR _ _ | exact cS _ _ | exact cA _ _))
  refine wpQuiet_nil ?_
  intro _ hw'
  obtain ⟨⟨dq, osq⟩, hw''⟩ := hw'
  subst hw''
  have c0 := Ka0 dq osq
  have c1 := Ka1 dq osq
  have c2 := Ka2 dq osq
  have c3 := Ka3 dq osq
  have h0 := Ki0 dq osq
  have h1 := Ki1 dq osq
  have h2 := Ki2 dq osq
  have h3 := Ki3 dq osq
  have hb7 := below_regrown W dq osq
  have zd : w.heap.size < (grow (redrawn W dq) osq).heap.size := Nat.lt_of_lt_of_le zz1 hb7.size
  have ze : w6.heap.size < (grow (redrawn W dq) osq).heap.size := Nat.lt_of_lt_of_le zz3 hb7.size
  have B8 : Below w.heap.size w (grow (redrawn W dq) osq) := B7.trans (hb7.mono (Nat.le_of_lt zz1))
  clear cR cS cA hb7 Ka0 Ka1 Ka2 Ka3 Kg0 Kg1 Kg2 Kg3 Ki0 Ki1 Ki2 Ki3 a0 a1 a2 a3 g0 g1 g2 g3 i0 i1 i2 i3
  generalize grow (redrawn W dq) osq = w7 at *
  clear zz1 zz2 zz3 B7 B1 B2 B3 B4 B5 B6
  go_wp2_with fail
  go_at_call 30
  (with_reducible refine (ref_fright_is _ _ _ _ true OK.out _ m1.out).mono ?_)
  rintro e w9 ⟨rfl, hb9⟩
  obtain ⟨hc, hf⟩ := bcell hb9
  have za : w.heap.size < w9.heap.size := Nat.lt_of_lt_of_le (by first | with_reducible assumption | (simp; done) | (simp; omega)) hb9.size
  have a0 : w9.cell? ⟨w.heap.size, 0, none⟩ = some (.int .i64 d) := by rw [hc _ _ (by first | with_reducible assumption | omega | (simp; done) | (simp; omega))]; go_simp
  have a1 : w9.cell? ⟨w.heap.size, 1, none⟩ = some (.int .i64 s) := by rw [hc _ _ (by first | with_reducible assumption | omega | (simp; done) | (simp; omega))]; go_simp
  have a2 : w9.cell? ⟨w.heap.size, 2, none⟩ = some (.int .i64 t) := by rw [hc _ _ (by first | with_reducible assumption | omega | (simp; done) | (simp; omega))]; go_simp
  have a3 : w9.cell? ⟨w.heap.size, 3, none⟩ = some (.string y) := by rw [hc _ _ (by first | with_reducible assumption | omega | (simp; done) | (simp; omega))]; go_simp
  have B9 : Below w.heap.size w w9 := by
    refine Below.trans ?_ (hb9.mono (by first | with_reducible exact Nat.le_of_lt (by assumption) | (simp; omega)))
    repeat (first | with_reducible assumption | apply Below.drew | refine Below.setCell ?_ (by first | omega | (simp; done) | (simp; omega)) _ | refine Below.alloc ?_ (by first | omega | (simp; done) | (simp; omega)) _)
  clear hc hf hb9 c0 c1 c2 c3 h0 h1 h2 h3
  go_wp2_with fail
  go_at_call 32
  (with_reducible refine (ref_fprint _ _ _ _ _ OK.out).mono ?_)
  rintro e w10 ⟨rfl, hb10⟩
  obtain ⟨hc, hf⟩ := bcell hb10
  have B10 : Below w.heap.size w w10 := by
    refine Below.trans ?_ (hb10.mono (by first | with_reducible exact Nat.le_of_lt (by assumption) | (simp; omega)))
    repeat (first | with_reducible assumption | apply Below.drew | refine Below.setCell ?_ (by first | omega | (simp; done) | (simp; omega)) _ | refine Below.alloc ?_ (by first | omega | (simp; done) | (simp; omega)) _)
  clear hc hf hb10
  go_wp2_with fail
  go_ret
  exact ⟨rfl, B10⟩

end Go.Proofs.Ytjmmdlnhallkpaa.MacP
