/-
  The walk of FrameBack.
-/
import Derived.Test.YtjmmdlnhallkpaaFrameG
import Derived.Deep.RegionWith
import Derived.Deep.Cut
namespace Go.Proofs.Ytjmmdlnhallkpaa.MacP
open Go.RowKit
set_option linter.unusedVariables false

set_option maxRecDepth 100000 in
set_option maxHeartbeats 4000000 in
theorem frameBack_any (d s t : Int) (x r : ByteArray) (w : World) (hx : x.size ≤ maxLen) (hr : r.size ≤ maxLen) :
    Calls Try.prog 8 #[fv d s t x, .string r] w fun e w' => e = .returned (.bool true) ∧ Below w.heap.size w w' := by
  have HX := Lib.hid hx
  have hr' : r.size ≤ 9223372036854775807 := by unfold maxLen at hr; omega
  have m0 := cutS_size x 130
  have m1 : Hid ((cutS x 130).size ≤ maxLen) := Lib.hid (by unfold maxLen; omega)
  have m2 : Hid ((cutS r 150).size ≤ maxLen) := Lib.hid (by have := cutS_size r 150; unfold maxLen; omega)
  have p1 : (0 : Int) ≤ min (r.size : Int) 150 := by omega
  have p2 : min (r.size : Int) 150 ≤ (r.size : Int) := by omega
  have p3 : r.extract 0 (min (r.size : Int) 150).toNat = cutS r 150 := rfl
  clear hx hr
  go_enter Try.func8, Try.ntmps8
  go_upto_region 1 with fail
  go_cut [1] from 15 (fun s1 wx => s1 = .string (cutS r 150) ∧ PB w d s t (cutS x 130) wx)
  case first =>
    go_region_with ((go_at_call 23; (with_reducible refine (few_any _ _ _ _ _ HX.out).mono ?_); rintro e w1 ⟨rfl, hb1⟩; obtain ⟨hc1, hf1⟩ := bcell hb1; have z1a : w.heap.size < w1.heap.size := by (have := hb1.size; simp at this; omega)))
    all_goals (go_wp2_with fail; go_meet)
    all_goals
      refine ⟨rfl, by go_simp, by go_simp, by go_simp, by go_simp, by simp; omega, ?_⟩
      repeat (first | exact ((Below.drew ((Below.refl _ _).alloc (Nat.le_refl _) _)).trans (hb1.mono (by simp))) | apply Below.drew | refine Below.setCell ?_ (by simp) _)
      done
  case rest =>
  clear p1 p2 p3 hr'
  obtain ⟨rfl, hp⟩ := hcut
  obtain ⟨k0, k1, k2, k3, zz, hB⟩ := hp
  cases ok : okB d s t (cutS x 130)
  · have OK := Lib.hid ok
    clear ok
    go_wp2_with (go_at_call 24; (with_reducible refine (fprint_no _ _ _ _ _ m1.out OK.out).mono ?_); rintro e w2 ⟨rfl, hb2⟩; obtain ⟨hc2, hf2⟩ := bcell hb2; have z2a : w.heap.size < w2.heap.size := Nat.lt_of_lt_of_le (by first | assumption | (simp; done) | (simp; omega)) hb2.size)
    go_wp2_with (go_at_call 29; (with_reducible refine (fright_is _ _ _ _ false OK.out _ m1.out).mono ?_); rintro e w3 ⟨rfl, hb3⟩; obtain ⟨hc3, hf3⟩ := bcell hb3; have z3a : w.heap.size < w3.heap.size := Nat.lt_of_lt_of_le (by first | assumption | (simp; done) | (simp; omega)) hb3.size)
    go_wp2_with (go_at_call 31; (with_reducible refine (falive_any _).mono ?_); rintro e w4 ⟨rfl, hb4⟩; obtain ⟨hc4, hf4⟩ := bcell hb4; have z4a : w.heap.size < w4.heap.size := Nat.lt_of_lt_of_le (by first | assumption | (simp; done) | (simp; omega)) hb4.size)
    obtain ⟨n, rk⟩ : ∃ n, pE (cutS r 150) = n := ⟨_, rfl⟩
    by_cases hn : n = 0
    · subst hn
      have RK := Lib.hid rk
      clear rk
      go_wp2_with (go_at_call 26; (with_reducible refine (fparse_good _ _ m2.out RK.out).mono ?_); rintro e w5 ⟨rfl, hb5⟩; obtain ⟨hc5, hf5⟩ := bcell hb5; have z5a : w.heap.size < w5.heap.size := Nat.lt_of_lt_of_le (by first | assumption | (simp; done) | (simp; omega)) hb5.size)
      go_wp2_with (go_at_call 24; (with_reducible refine (fprint_back _ _ RK.out).mono ?_); rintro e w6 ⟨rfl, hb6⟩; obtain ⟨hc6, hf6⟩ := bcell hb6; have z6a : w.heap.size < w6.heap.size := Nat.lt_of_lt_of_le (by first | assumption | (simp; done) | (simp; omega)) hb6.size; have z6b : w5.heap.size < w6.heap.size := Nat.lt_of_lt_of_le (by first | assumption | (simp; done) | (simp; omega)) hb6.size)
      go_wp2_with (go_at_call 10; (with_reducible refine (class_src _ _ RK.out).mono ?_); rintro e w' ⟨rfl, rfl⟩)
      go_wp2_with (go_at_call 29; (with_reducible refine (fright_back _ _ RK.out).mono ?_); rintro e w8 ⟨rfl, hb8⟩; obtain ⟨hc8, hf8⟩ := bcell hb8; have z8a : w.heap.size < w8.heap.size := Nat.lt_of_lt_of_le (by first | assumption | (simp; done) | (simp; omega)) hb8.size)
      go_wp2_with fail
      go_ret
      refine ⟨rfl, ?_⟩
      repeat (first | exact hB | assumption | apply Below.drew | refine Below.setCell ?_ (by first | omega | (simp; omega)) _ | refine Below.alloc ?_ (by first | omega | (simp; omega)) _ | refine Below.trans ?_ (Below.mono (by assumption) (by first | omega | (simp; omega))))
    · have RK := Lib.hid rk
      have HN := Lib.hid hn
      have hn' : (n != 0) = true := by simpa using hn
      clear rk hn
      go_wp2_with (go_at_call 26; (with_reducible refine (fparse_bad _ n _ m2.out RK.out HN.out).mono ?_); rintro e w5 ⟨rfl, hb5⟩; obtain ⟨hc5, hf5⟩ := bcell hb5; have z5a : w.heap.size < w5.heap.size := Nat.lt_of_lt_of_le (by first | assumption | (simp; done) | (simp; omega)) hb5.size)
      go_wp2_with fail
      go_ret
      refine ⟨rfl, ?_⟩
      repeat (first | exact hB | assumption | apply Below.drew | refine Below.setCell ?_ (by first | omega | (simp; omega)) _ | refine Below.alloc ?_ (by first | omega | (simp; omega)) _ | refine Below.trans ?_ (Below.mono (by assumption) (by first | omega | (simp; omega))))
  · have OK := Lib.hid ok
    have hz : ((pBytes d s t (cutS x 130)).size : Int) = 14 + ((cutS x 130).size : Int) := by rw [pBytes_size]; omega
    clear ok
    go_wp2_with (go_at_call 24; (with_reducible refine (fprint_yes _ _ _ _ _ OK.out).mono ?_); rintro e w2 ⟨rfl, hb2⟩; obtain ⟨hc2, hf2⟩ := bcell hb2; have z2a : w.heap.size < w2.heap.size := Nat.lt_of_lt_of_le (by first | assumption | (simp; done) | (simp; omega)) hb2.size)
    go_wp2_with (go_at_call 29; (with_reducible refine (fright_is _ _ _ _ true OK.out _ m1.out).mono ?_); rintro e w3 ⟨rfl, hb3⟩; obtain ⟨hc3, hf3⟩ := bcell hb3; have z3a : w.heap.size < w3.heap.size := Nat.lt_of_lt_of_le (by first | assumption | (simp; done) | (simp; omega)) hb3.size)
    go_wp2_with (go_at_call 31; (with_reducible refine (falive_any _).mono ?_); rintro e w4 ⟨rfl, hb4⟩; obtain ⟨hc4, hf4⟩ := bcell hb4; have z4a : w.heap.size < w4.heap.size := Nat.lt_of_lt_of_le (by first | assumption | (simp; done) | (simp; omega)) hb4.size)
    go_wp2_with (go_at_call 26; (with_reducible refine (fparse_print _ _ _ _ _ OK.out).mono ?_); rintro e w5 ⟨rfl, hb5⟩; obtain ⟨hc5, hf5⟩ := bcell hb5; have z5a : w.heap.size < w5.heap.size := Nat.lt_of_lt_of_le (by first | assumption | (simp; done) | (simp; omega)) hb5.size)
    obtain ⟨n, rk⟩ : ∃ n, pE (cutS r 150) = n := ⟨_, rfl⟩
    by_cases hn : n = 0
    · subst hn
      have RK := Lib.hid rk
      clear rk
      go_wp2_with (go_at_call 26; (with_reducible refine (fparse_good _ _ m2.out RK.out).mono ?_); rintro e w6 ⟨rfl, hb6⟩; obtain ⟨hc6, hf6⟩ := bcell hb6; have z6a : w.heap.size < w6.heap.size := Nat.lt_of_lt_of_le (by first | assumption | (simp; done) | (simp; omega)) hb6.size)
      go_wp2_with (go_at_call 24; (with_reducible refine (fprint_back _ _ RK.out).mono ?_); rintro e w7 ⟨rfl, hb7⟩; obtain ⟨hc7, hf7⟩ := bcell hb7; have z7a : w.heap.size < w7.heap.size := Nat.lt_of_lt_of_le (by first | assumption | (simp; done) | (simp; omega)) hb7.size; have z7b : w6.heap.size < w7.heap.size := Nat.lt_of_lt_of_le (by first | assumption | (simp; done) | (simp; omega)) hb7.size)
      go_wp2_with (go_at_call 10; (with_reducible refine (class_src _ _ RK.out).mono ?_); rintro e w' ⟨rfl, rfl⟩)
      go_wp2_with (go_at_call 29; (with_reducible refine (fright_back _ _ RK.out).mono ?_); rintro e w9 ⟨rfl, hb9⟩; obtain ⟨hc9, hf9⟩ := bcell hb9; have z9a : w.heap.size < w9.heap.size := Nat.lt_of_lt_of_le (by first | assumption | (simp; done) | (simp; omega)) hb9.size)
      go_wp2_with fail
      go_ret
      refine ⟨rfl, ?_⟩
      repeat (first | exact hB | assumption | apply Below.drew | refine Below.setCell ?_ (by first | omega | (simp; omega)) _ | refine Below.alloc ?_ (by first | omega | (simp; omega)) _ | refine Below.trans ?_ (Below.mono (by assumption) (by first | omega | (simp; omega))))
    · have RK := Lib.hid rk
      have HN := Lib.hid hn
      have hn' : (n != 0) = true := by simpa using hn
      clear rk hn
      go_wp2_with (go_at_call 26; (with_reducible refine (fparse_bad _ n _ m2.out RK.out HN.out).mono ?_); rintro e w6 ⟨rfl, hb6⟩; obtain ⟨hc6, hf6⟩ := bcell hb6; have z6a : w.heap.size < w6.heap.size := Nat.lt_of_lt_of_le (by first | assumption | (simp; done) | (simp; omega)) hb6.size)
      go_wp2_with fail
      go_ret
      refine ⟨rfl, ?_⟩
      repeat (first | exact hB | assumption | apply Below.drew | refine Below.setCell ?_ (by first | omega | (simp; omega)) _ | refine Below.alloc ?_ (by first | omega | (simp; omega)) _ | refine Below.trans ?_ (Below.mono (by assumption) (by first | omega | (simp; omega))))
theorem frameBack_law (d s t : Int) (x r : ByteArray) (wd : (Lit.int .i64 d).wf = true) (ws : (Lit.int .i64 s).wf = true) (wt : (Lit.int .i64 t).wf = true) (hx : x.size ≤ maxLen) (hr : r.size ≤ maxLen) (w : World) :
    Calls Try.prog 8 #[fv d s t x, .string r] w fun e w' => e = .returned (.bool true) ∧ Below w.heap.size w w' := frameBack_any d s t x r w hx hr
end Go.Proofs.Ytjmmdlnhallkpaa.MacP
