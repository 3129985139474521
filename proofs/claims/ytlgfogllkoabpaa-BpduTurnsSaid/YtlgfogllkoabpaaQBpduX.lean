/-
  Contract of footwayref03.Unwrap.
-/
import Derived.Test.YtlgfogllkoabpaaQBpduR
import Derived.Deep.QuietTactic
namespace Go.Proofs.Ytlgfogllkoabpaa.QMacP
open Go.RowKit Go.Sort
set_option linter.unusedVariables false
set_option maxRecDepth 100000

set_option maxHeartbeats 1000000 in
theorem ref_unwrap_bad (s : ByteArray) (w : World) (hs : s.size ≤ maxLen) (n : Int) (hp : pE s = n) (hn : n ≠ 0) :
    Calls TryQ.prog 11 #[.string s] w fun e w' => e = .returned (.tuple #[cv 0 0 0 0 0, .int .i64 n]) ∧ Below w.heap.size w w' := by
  have HM := Lib.hid hs
  have HP := Lib.hid hp
  have HN := Lib.hid hn
  have hn' : (n != 0) = true := by simpa using hn
  clear hp hn
  clear hs
  go_enter TryQ.func11, Try.ntmps11
  go_wp2_with fail
  go_at_call 25
  (with_reducible refine (ref_fparse_bad _ n _ HM.out HP.out HN.out).mono ?_)
  rintro e w1 ⟨rfl, hb1⟩
  obtain ⟨hc, hf⟩ := bcell hb1
  have z1 : w.heap.size < w1.heap.size := Nat.lt_of_lt_of_le (by simp) hb1.size
  have y10 : w1.cell? ⟨w.heap.size, 0, none⟩ = some (.int .i64 0) := by rw [hc _ _ (by first | with_reducible assumption | (simp; done) | (simp; omega))]; go_simp
  have x10 : w1.frozen? ⟨w.heap.size, 0, none⟩ = false := by rw [hf _ _ (by first | with_reducible assumption | (simp; done) | (simp; omega))]; go_simp
  have y11 : w1.cell? ⟨w.heap.size, 1, none⟩ = some (.int .i64 0) := by rw [hc _ _ (by first | with_reducible assumption | (simp; done) | (simp; omega))]; go_simp
  have x11 : w1.frozen? ⟨w.heap.size, 1, none⟩ = false := by rw [hf _ _ (by first | with_reducible assumption | (simp; done) | (simp; omega))]; go_simp
  have y12 : w1.cell? ⟨w.heap.size, 2, none⟩ = some (.int .i64 0) := by rw [hc _ _ (by first | with_reducible assumption | (simp; done) | (simp; omega))]; go_simp
  have x12 : w1.frozen? ⟨w.heap.size, 2, none⟩ = false := by rw [hf _ _ (by first | with_reducible assumption | (simp; done) | (simp; omega))]; go_simp
  have y13 : w1.cell? ⟨w.heap.size, 3, none⟩ = some (.int .i64 0) := by rw [hc _ _ (by first | with_reducible assumption | (simp; done) | (simp; omega))]; go_simp
  have x13 : w1.frozen? ⟨w.heap.size, 3, none⟩ = false := by rw [hf _ _ (by first | with_reducible assumption | (simp; done) | (simp; omega))]; go_simp
  have y14 : w1.cell? ⟨w.heap.size, 4, none⟩ = some (.int .i64 0) := by rw [hc _ _ (by first | with_reducible assumption | (simp; done) | (simp; omega))]; go_simp
  have x14 : w1.frozen? ⟨w.heap.size, 4, none⟩ = false := by rw [hf _ _ (by first | with_reducible assumption | (simp; done) | (simp; omega))]; go_simp
  have B1 : Below w.heap.size w w1 := ((Below.refl _ _).alloc (Nat.le_refl _) _).trans (hb1.mono (by simp))
  clear hc hf hb1
  go_wp2_with fail
  refine bodyPost_ret (v := .tuple #[cv 0 0 0 0 0, .int .i64 n]) (by simp [results, Try.results11, go_sem, z1, y10, y11, y12, y13, y14]) rfl ⟨rfl, ?_⟩
  repeat (first | with_reducible exact B1 | refine Below.setCell ?_ (by simp) _ | refine Below.alloc ?_ (by first | with_reducible exact Nat.le_of_lt (by assumption) | (simp; omega)) _)

set_option maxHeartbeats 1000000 in
theorem ref_unwrap_dst (s : ByteArray) (w : World) (hs : s.size ≤ maxLen) (hp : pE s = 0) (hd : adr s 0 ≠ 1652522221568) :
    Calls TryQ.prog 11 #[.string s] w fun e w' => e = .returned (.tuple #[cv 0 0 0 0 0, .int .i64 10]) ∧ Below w.heap.size w w' := by
  have HM := Lib.hid hs
  have HP := Lib.hid hp
  have hd' : (adr s 0 != 1652522221568) = true := by simpa using hd
  clear hp hd
  clear hs
  go_enter TryQ.func11, Try.ntmps11
  go_wp2_with fail
  go_at_call 25
  (with_reducible refine (ref_fparse_good _ _ HM.out HP.out).mono ?_)
  rintro e w1 ⟨rfl, hb1⟩
  obtain ⟨hc, hf⟩ := bcell hb1
  have z1 : w.heap.size < w1.heap.size := Nat.lt_of_lt_of_le (by simp) hb1.size
  have y10 : w1.cell? ⟨w.heap.size, 0, none⟩ = some (.int .i64 0) := by rw [hc _ _ (by first | with_reducible assumption | (simp; done) | (simp; omega))]; go_simp
  have x10 : w1.frozen? ⟨w.heap.size, 0, none⟩ = false := by rw [hf _ _ (by first | with_reducible assumption | (simp; done) | (simp; omega))]; go_simp
  have y11 : w1.cell? ⟨w.heap.size, 1, none⟩ = some (.int .i64 0) := by rw [hc _ _ (by first | with_reducible assumption | (simp; done) | (simp; omega))]; go_simp
  have x11 : w1.frozen? ⟨w.heap.size, 1, none⟩ = false := by rw [hf _ _ (by first | with_reducible assumption | (simp; done) | (simp; omega))]; go_simp
  have y12 : w1.cell? ⟨w.heap.size, 2, none⟩ = some (.int .i64 0) := by rw [hc _ _ (by first | with_reducible assumption | (simp; done) | (simp; omega))]; go_simp
  have x12 : w1.frozen? ⟨w.heap.size, 2, none⟩ = false := by rw [hf _ _ (by first | with_reducible assumption | (simp; done) | (simp; omega))]; go_simp
  have y13 : w1.cell? ⟨w.heap.size, 3, none⟩ = some (.int .i64 0) := by rw [hc _ _ (by first | with_reducible assumption | (simp; done) | (simp; omega))]; go_simp
  have x13 : w1.frozen? ⟨w.heap.size, 3, none⟩ = false := by rw [hf _ _ (by first | with_reducible assumption | (simp; done) | (simp; omega))]; go_simp
  have y14 : w1.cell? ⟨w.heap.size, 4, none⟩ = some (.int .i64 0) := by rw [hc _ _ (by first | with_reducible assumption | (simp; done) | (simp; omega))]; go_simp
  have x14 : w1.frozen? ⟨w.heap.size, 4, none⟩ = false := by rw [hf _ _ (by first | with_reducible assumption | (simp; done) | (simp; omega))]; go_simp
  have B1 : Below w.heap.size w w1 := ((Below.refl _ _).alloc (Nat.le_refl _) _).trans (hb1.mono (by simp))
  clear hc hf hb1
  go_wp2_with fail
  refine bodyPost_ret (v := .tuple #[cv 0 0 0 0 0, .int .i64 10]) (by simp [results, Try.results11, go_sem, z1, y10, y11, y12, y13, y14]) rfl ⟨rfl, ?_⟩
  repeat (first | with_reducible exact B1 | refine Below.setCell ?_ (by simp) _ | refine Below.alloc ?_ (by first | with_reducible exact Nat.le_of_lt (by assumption) | (simp; omega)) _)

set_option maxHeartbeats 1000000 in
theorem ref_unwrap_typ (s : ByteArray) (w : World) (hs : s.size ≤ maxLen) (hp : pE s = 0) (hd : adr s 0 = 1652522221568) (ht : typ s ≠ 32834) :
    Calls TryQ.prog 11 #[.string s] w fun e w' => e = .returned (.tuple #[cv 0 0 0 0 0, .int .i64 10]) ∧ Below w.heap.size w w' := by
  have HM := Lib.hid hs
  have HP := Lib.hid hp
  have hd' : (adr s 0 != 1652522221568) = false := by simpa using hd
  have ht' : (typ s != 32834) = true := by simpa using ht
  clear hp hd ht
  clear hs
  go_enter TryQ.func11, Try.ntmps11
  go_wp2_with fail
  go_at_call 25
  (with_reducible refine (ref_fparse_good _ _ HM.out HP.out).mono ?_)
  rintro e w1 ⟨rfl, hb1⟩
  obtain ⟨hc, hf⟩ := bcell hb1
  have z1 : w.heap.size < w1.heap.size := Nat.lt_of_lt_of_le (by simp) hb1.size
  have y10 : w1.cell? ⟨w.heap.size, 0, none⟩ = some (.int .i64 0) := by rw [hc _ _ (by first | with_reducible assumption | (simp; done) | (simp; omega))]; go_simp
  have x10 : w1.frozen? ⟨w.heap.size, 0, none⟩ = false := by rw [hf _ _ (by first | with_reducible assumption | (simp; done) | (simp; omega))]; go_simp
  have y11 : w1.cell? ⟨w.heap.size, 1, none⟩ = some (.int .i64 0) := by rw [hc _ _ (by first | with_reducible assumption | (simp; done) | (simp; omega))]; go_simp
  have x11 : w1.frozen? ⟨w.heap.size, 1, none⟩ = false := by rw [hf _ _ (by first | with_reducible assumption | (simp; done) | (simp; omega))]; go_simp
  have y12 : w1.cell? ⟨w.heap.size, 2, none⟩ = some (.int .i64 0) := by rw [hc _ _ (by first | with_reducible assumption | (simp; done) | (simp; omega))]; go_simp
  have x12 : w1.frozen? ⟨w.heap.size, 2, none⟩ = false := by rw [hf _ _ (by first | with_reducible assumption | (simp; done) | (simp; omega))]; go_simp
  have y13 : w1.cell? ⟨w.heap.size, 3, none⟩ = some (.int .i64 0) := by rw [hc _ _ (by first | with_reducible assumption | (simp; done) | (simp; omega))]; go_simp
  have x13 : w1.frozen? ⟨w.heap.size, 3, none⟩ = false := by rw [hf _ _ (by first | with_reducible assumption | (simp; done) | (simp; omega))]; go_simp
  have y14 : w1.cell? ⟨w.heap.size, 4, none⟩ = some (.int .i64 0) := by rw [hc _ _ (by first | with_reducible assumption | (simp; done) | (simp; omega))]; go_simp
  have x14 : w1.frozen? ⟨w.heap.size, 4, none⟩ = false := by rw [hf _ _ (by first | with_reducible assumption | (simp; done) | (simp; omega))]; go_simp
  have B1 : Below w.heap.size w w1 := ((Below.refl _ _).alloc (Nat.le_refl _) _).trans (hb1.mono (by simp))
  clear hc hf hb1
  go_wp2_with fail
  refine bodyPost_ret (v := .tuple #[cv 0 0 0 0 0, .int .i64 10]) (by simp [results, Try.results11, go_sem, z1, y10, y11, y12, y13, y14]) rfl ⟨rfl, ?_⟩
  repeat (first | with_reducible exact B1 | refine Below.setCell ?_ (by simp) _ | refine Below.alloc ?_ (by first | with_reducible exact Nat.le_of_lt (by assumption) | (simp; omega)) _)

set_option maxHeartbeats 1000000 in
theorem ref_unwrap_data (s : ByteArray) (w : World) (hs : s.size ≤ maxLen) (hp : pE s = 0) (hd : adr s 0 = 1652522221568) (ht : typ s = 32834) (n : Int) (hc : cE (dat s) = n) (hn : n ≠ 0) :
    Calls TryQ.prog 11 #[.string s] w fun e w' => e = .returned (.tuple #[cv 0 0 0 0 0, .int .i64 n]) ∧ Below w.heap.size w w' := by
  have HM := Lib.hid hs
  have HP := Lib.hid hp
  have hd' : (adr s 0 != 1652522221568) = false := by simpa using hd
  have ht' : (typ s != 32834) = false := by simpa using ht
  have HD : Hid ((dat s).size ≤ maxLen) := Lib.hid (by rw [dat_size]; exact Nat.le_trans (Nat.sub_le _ _) hs)
  have HC := Lib.hid hc
  have HN := Lib.hid hn
  have hn' : (n != 0) = true := by simpa using hn
  clear hp hd ht hc hn
  clear hs
  go_enter TryQ.func11, Try.ntmps11
  go_wp2_with fail
  go_at_call 25
  (with_reducible refine (ref_fparse_good _ _ HM.out HP.out).mono ?_)
  rintro e w1 ⟨rfl, hb1⟩
  obtain ⟨hc, hf⟩ := bcell hb1
  have z1 : w.heap.size < w1.heap.size := Nat.lt_of_lt_of_le (by simp) hb1.size
  have y10 : w1.cell? ⟨w.heap.size, 0, none⟩ = some (.int .i64 0) := by rw [hc _ _ (by first | with_reducible assumption | (simp; done) | (simp; omega))]; go_simp
  have x10 : w1.frozen? ⟨w.heap.size, 0, none⟩ = false := by rw [hf _ _ (by first | with_reducible assumption | (simp; done) | (simp; omega))]; go_simp
  have y11 : w1.cell? ⟨w.heap.size, 1, none⟩ = some (.int .i64 0) := by rw [hc _ _ (by first | with_reducible assumption | (simp; done) | (simp; omega))]; go_simp
  have x11 : w1.frozen? ⟨w.heap.size, 1, none⟩ = false := by rw [hf _ _ (by first | with_reducible assumption | (simp; done) | (simp; omega))]; go_simp
  have y12 : w1.cell? ⟨w.heap.size, 2, none⟩ = some (.int .i64 0) := by rw [hc _ _ (by first | with_reducible assumption | (simp; done) | (simp; omega))]; go_simp
  have x12 : w1.frozen? ⟨w.heap.size, 2, none⟩ = false := by rw [hf _ _ (by first | with_reducible assumption | (simp; done) | (simp; omega))]; go_simp
  have y13 : w1.cell? ⟨w.heap.size, 3, none⟩ = some (.int .i64 0) := by rw [hc _ _ (by first | with_reducible assumption | (simp; done) | (simp; omega))]; go_simp
  have x13 : w1.frozen? ⟨w.heap.size, 3, none⟩ = false := by rw [hf _ _ (by first | with_reducible assumption | (simp; done) | (simp; omega))]; go_simp
  have y14 : w1.cell? ⟨w.heap.size, 4, none⟩ = some (.int .i64 0) := by rw [hc _ _ (by first | with_reducible assumption | (simp; done) | (simp; omega))]; go_simp
  have x14 : w1.frozen? ⟨w.heap.size, 4, none⟩ = false := by rw [hf _ _ (by first | with_reducible assumption | (simp; done) | (simp; omega))]; go_simp
  have B1 : Below w.heap.size w w1 := ((Below.refl _ _).alloc (Nat.le_refl _) _).trans (hb1.mono (by simp))
  clear hc hf hb1
  go_wp2_with fail
  go_at_call 10
  (with_reducible refine (ref_cparse_bad _ n _ HD.out HC.out HN.out).mono ?_)
  rintro e w2 ⟨rfl, hb2⟩
  obtain ⟨hc, hf⟩ := bcell hb2
  have z2 : w.heap.size < w2.heap.size := Nat.lt_of_lt_of_le (by first | with_reducible assumption | (simp; done) | (simp; omega)) hb2.size
  have z3 : w1.heap.size < w2.heap.size := Nat.lt_of_lt_of_le (by first | with_reducible assumption | (simp; done) | (simp; omega)) hb2.size
  have y20 : w2.cell? ⟨w.heap.size, 0, none⟩ = some (.int .i64 0) := by rw [hc _ _ (by first | with_reducible assumption | (simp; done) | (simp; omega))]; go_simp
  have x20 : w2.frozen? ⟨w.heap.size, 0, none⟩ = false := by rw [hf _ _ (by first | with_reducible assumption | (simp; done) | (simp; omega))]; go_simp
  have y21 : w2.cell? ⟨w.heap.size, 1, none⟩ = some (.int .i64 0) := by rw [hc _ _ (by first | with_reducible assumption | (simp; done) | (simp; omega))]; go_simp
  have x21 : w2.frozen? ⟨w.heap.size, 1, none⟩ = false := by rw [hf _ _ (by first | with_reducible assumption | (simp; done) | (simp; omega))]; go_simp
  have y22 : w2.cell? ⟨w.heap.size, 2, none⟩ = some (.int .i64 0) := by rw [hc _ _ (by first | with_reducible assumption | (simp; done) | (simp; omega))]; go_simp
  have x22 : w2.frozen? ⟨w.heap.size, 2, none⟩ = false := by rw [hf _ _ (by first | with_reducible assumption | (simp; done) | (simp; omega))]; go_simp
  have y23 : w2.cell? ⟨w.heap.size, 3, none⟩ = some (.int .i64 0) := by rw [hc _ _ (by first | with_reducible assumption | (simp; done) | (simp; omega))]; go_simp
  have x23 : w2.frozen? ⟨w.heap.size, 3, none⟩ = false := by rw [hf _ _ (by first | with_reducible assumption | (simp; done) | (simp; omega))]; go_simp
  have y24 : w2.cell? ⟨w.heap.size, 4, none⟩ = some (.int .i64 0) := by rw [hc _ _ (by first | with_reducible assumption | (simp; done) | (simp; omega))]; go_simp
  have x24 : w2.frozen? ⟨w.heap.size, 4, none⟩ = false := by rw [hf _ _ (by first | with_reducible assumption | (simp; done) | (simp; omega))]; go_simp
  have f20 : w2.cell? ⟨w1.heap.size, 0, none⟩ = some (.int .i64 (adr s 0)) := by rw [hc _ _ (by first | with_reducible assumption | (simp; done) | (simp; omega))]; go_simp
  have f21 : w2.cell? ⟨w1.heap.size, 1, none⟩ = some (.int .i64 (adr s 6)) := by rw [hc _ _ (by first | with_reducible assumption | (simp; done) | (simp; omega))]; go_simp
  have f22 : w2.cell? ⟨w1.heap.size, 2, none⟩ = some (.int .i64 (typ s)) := by rw [hc _ _ (by first | with_reducible assumption | (simp; done) | (simp; omega))]; go_simp
  have f23 : w2.cell? ⟨w1.heap.size, 3, none⟩ = some (.string (dat s)) := by rw [hc _ _ (by first | with_reducible assumption | (simp; done) | (simp; omega))]; go_simp
  have B2 : Below w.heap.size w w2 := (B1.alloc (Nat.le_of_lt z1) _).trans (hb2.mono (by simp; omega))
  clear hc hf hb2 y10 x10 y11 x11 y12 x12 y13 x13 y14 x14
  go_wp2_with fail
  refine bodyPost_ret (v := .tuple #[cv 0 0 0 0 0, .int .i64 n]) (by simp [results, Try.results11, go_sem, z2, y20, y21, y22, y23, y24]) rfl ⟨rfl, ?_⟩
  repeat (first | with_reducible exact B2 | refine Below.setCell ?_ (by simp) _ | refine Below.alloc ?_ (by first | with_reducible exact Nat.le_of_lt (by assumption) | (simp; omega)) _)

theorem cE_ok (s : ByteArray) (h : cE s = 0) : okC (rd s 1 3) (rd s 3 7) (rd s 7 9) (rd s 9 10) (rd s 10 11) = true := by
  unfold cE at h
  by_cases a : s.size < 12
  · rw [if_pos a] at h; cases h
  · rw [if_neg a] at h
    by_cases b : 12 < s.size
    · rw [if_pos b] at h; cases h
    · rw [if_neg b] at h
      by_cases c : sumTo (gb s) 12 ≠ 0
      · rw [if_pos c] at h; cases h
      · rw [if_neg c] at h
        by_cases d : gb s 0 = 0 ∧ okC (rd s 1 3) (rd s 3 7) (rd s 7 9) (rd s 9 10) (rd s 10 11) = true
        · exact d.2
        · rw [if_neg d] at h; cases h

set_option maxHeartbeats 1000000 in
theorem ref_unwrap_src (s : ByteArray) (w : World) (hs : s.size ≤ maxLen) (hp : pE s = 0) (hd : adr s 0 = 1652522221568) (ht : typ s = 32834) (hc : cE (dat s) = 0) (hs6 : adr s 6 ≠ 2199023321088 + rd (dat s) 7 9) :
    Calls TryQ.prog 11 #[.string s] w fun e w' => e = .returned (.tuple #[cv 0 0 0 0 0, .int .i64 10]) ∧ Below w.heap.size w w' := by
  have HM := Lib.hid hs
  have HP := Lib.hid hp
  have hd' : (adr s 0 != 1652522221568) = false := by simpa using hd
  have ht' : (typ s != 32834) = false := by simpa using ht
  have HD : Hid ((dat s).size ≤ maxLen) := Lib.hid (by rw [dat_size]; exact Nat.le_trans (Nat.sub_le _ _) hs)
  have HC := Lib.hid hc
  have h6' : (adr s 6 != 2199023321088 + rd (dat s) 7 9) = true := by simpa using hs6
  clear hp hd ht hc hs6
  clear hs
  go_enter TryQ.func11, Try.ntmps11
  go_wp2_with fail
  go_at_call 25
  (with_reducible refine (ref_fparse_good _ _ HM.out HP.out).mono ?_)
  rintro e w1 ⟨rfl, hb1⟩
  obtain ⟨hc, hf⟩ := bcell hb1
  have z1 : w.heap.size < w1.heap.size := Nat.lt_of_lt_of_le (by simp) hb1.size
  have y10 : w1.cell? ⟨w.heap.size, 0, none⟩ = some (.int .i64 0) := by rw [hc _ _ (by first | with_reducible assumption | (simp; done) | (simp; omega))]; go_simp
  have x10 : w1.frozen? ⟨w.heap.size, 0, none⟩ = false := by rw [hf _ _ (by first | with_reducible assumption | (simp; done) | (simp; omega))]; go_simp
  have y11 : w1.cell? ⟨w.heap.size, 1, none⟩ = some (.int .i64 0) := by rw [hc _ _ (by first | with_reducible assumption | (simp; done) | (simp; omega))]; go_simp
  have x11 : w1.frozen? ⟨w.heap.size, 1, none⟩ = false := by rw [hf _ _ (by first | with_reducible assumption | (simp; done) | (simp; omega))]; go_simp
  have y12 : w1.cell? ⟨w.heap.size, 2, none⟩ = some (.int .i64 0) := by rw [hc _ _ (by first | with_reducible assumption | (simp; done) | (simp; omega))]; go_simp
  have x12 : w1.frozen? ⟨w.heap.size, 2, none⟩ = false := by rw [hf _ _ (by first | with_reducible assumption | (simp; done) | (simp; omega))]; go_simp
  have y13 : w1.cell? ⟨w.heap.size, 3, none⟩ = some (.int .i64 0) := by rw [hc _ _ (by first | with_reducible assumption | (simp; done) | (simp; omega))]; go_simp
  have x13 : w1.frozen? ⟨w.heap.size, 3, none⟩ = false := by rw [hf _ _ (by first | with_reducible assumption | (simp; done) | (simp; omega))]; go_simp
  have y14 : w1.cell? ⟨w.heap.size, 4, none⟩ = some (.int .i64 0) := by rw [hc _ _ (by first | with_reducible assumption | (simp; done) | (simp; omega))]; go_simp
  have x14 : w1.frozen? ⟨w.heap.size, 4, none⟩ = false := by rw [hf _ _ (by first | with_reducible assumption | (simp; done) | (simp; omega))]; go_simp
  have B1 : Below w.heap.size w w1 := ((Below.refl _ _).alloc (Nat.le_refl _) _).trans (hb1.mono (by simp))
  clear hc hf hb1
  go_wp2_with fail
  go_at_call 10
  (with_reducible refine (ref_cparse_good _ _ HD.out HC.out).mono ?_)
  rintro e w2 ⟨rfl, hb2⟩
  obtain ⟨hc, hf⟩ := bcell hb2
  have z2 : w.heap.size < w2.heap.size := Nat.lt_of_lt_of_le (by first | with_reducible assumption | (simp; done) | (simp; omega)) hb2.size
  have z3 : w1.heap.size < w2.heap.size := Nat.lt_of_lt_of_le (by first | with_reducible assumption | (simp; done) | (simp; omega)) hb2.size
  have y20 : w2.cell? ⟨w.heap.size, 0, none⟩ = some (.int .i64 0) := by rw [hc _ _ (by first | with_reducible assumption | (simp; done) | (simp; omega))]; go_simp
  have x20 : w2.frozen? ⟨w.heap.size, 0, none⟩ = false := by rw [hf _ _ (by first | with_reducible assumption | (simp; done) | (simp; omega))]; go_simp
  have y21 : w2.cell? ⟨w.heap.size, 1, none⟩ = some (.int .i64 0) := by rw [hc _ _ (by first | with_reducible assumption | (simp; done) | (simp; omega))]; go_simp
  have x21 : w2.frozen? ⟨w.heap.size, 1, none⟩ = false := by rw [hf _ _ (by first | with_reducible assumption | (simp; done) | (simp; omega))]; go_simp
  have y22 : w2.cell? ⟨w.heap.size, 2, none⟩ = some (.int .i64 0) := by rw [hc _ _ (by first | with_reducible assumption | (simp; done) | (simp; omega))]; go_simp
  have x22 : w2.frozen? ⟨w.heap.size, 2, none⟩ = false := by rw [hf _ _ (by first | with_reducible assumption | (simp; done) | (simp; omega))]; go_simp
  have y23 : w2.cell? ⟨w.heap.size, 3, none⟩ = some (.int .i64 0) := by rw [hc _ _ (by first | with_reducible assumption | (simp; done) | (simp; omega))]; go_simp
  have x23 : w2.frozen? ⟨w.heap.size, 3, none⟩ = false := by rw [hf _ _ (by first | with_reducible assumption | (simp; done) | (simp; omega))]; go_simp
  have y24 : w2.cell? ⟨w.heap.size, 4, none⟩ = some (.int .i64 0) := by rw [hc _ _ (by first | with_reducible assumption | (simp; done) | (simp; omega))]; go_simp
  have x24 : w2.frozen? ⟨w.heap.size, 4, none⟩ = false := by rw [hf _ _ (by first | with_reducible assumption | (simp; done) | (simp; omega))]; go_simp
  have f20 : w2.cell? ⟨w1.heap.size, 0, none⟩ = some (.int .i64 (adr s 0)) := by rw [hc _ _ (by first | with_reducible assumption | (simp; done) | (simp; omega))]; go_simp
  have f21 : w2.cell? ⟨w1.heap.size, 1, none⟩ = some (.int .i64 (adr s 6)) := by rw [hc _ _ (by first | with_reducible assumption | (simp; done) | (simp; omega))]; go_simp
  have f22 : w2.cell? ⟨w1.heap.size, 2, none⟩ = some (.int .i64 (typ s)) := by rw [hc _ _ (by first | with_reducible assumption | (simp; done) | (simp; omega))]; go_simp
  have f23 : w2.cell? ⟨w1.heap.size, 3, none⟩ = some (.string (dat s)) := by rw [hc _ _ (by first | with_reducible assumption | (simp; done) | (simp; omega))]; go_simp
  have B2 : Below w.heap.size w w2 := (B1.alloc (Nat.le_of_lt z1) _).trans (hb2.mono (by simp; omega))
  clear hc hf hb2 y10 x10 y11 x11 y12 x12 y13 x13 y14 x14
  go_wp2_with fail
  have bb := okC_yes (cE_ok (dat s) HC.out)
  have zz2 : w.heap.size < (w2.alloc (.cells #[.int .i64 (rd (dat s) 1 3), .int .i64 (rd (dat s) 3 7), .int .i64 (rd (dat s) 7 9), .int .i64 (rd (dat s) 9 10), .int .i64 (rd (dat s) 10 11)] 25)).heap.size := by simp; omega
  have g0 : (w2.alloc (.cells #[.int .i64 (rd (dat s) 1 3), .int .i64 (rd (dat s) 3 7), .int .i64 (rd (dat s) 7 9), .int .i64 (rd (dat s) 9 10), .int .i64 (rd (dat s) 10 11)] 25)).cell? ⟨w1.heap.size, 0, none⟩ = some (.int .i64 (adr s 0)) := by go_simp
  have g1 : (w2.alloc (.cells #[.int .i64 (rd (dat s) 1 3), .int .i64 (rd (dat s) 3 7), .int .i64 (rd (dat s) 7 9), .int .i64 (rd (dat s) 9 10), .int .i64 (rd (dat s) 10 11)] 25)).cell? ⟨w1.heap.size, 1, none⟩ = some (.int .i64 (adr s 6)) := by go_simp
  have g2 : (w2.alloc (.cells #[.int .i64 (rd (dat s) 1 3), .int .i64 (rd (dat s) 3 7), .int .i64 (rd (dat s) 7 9), .int .i64 (rd (dat s) 9 10), .int .i64 (rd (dat s) 10 11)] 25)).cell? ⟨w1.heap.size, 2, none⟩ = some (.int .i64 (typ s)) := by go_simp
  have g3 : (w2.alloc (.cells #[.int .i64 (rd (dat s) 1 3), .int .i64 (rd (dat s) 3 7), .int .i64 (rd (dat s) 7 9), .int .i64 (rd (dat s) 9 10), .int .i64 (rd (dat s) 10 11)] 25)).cell? ⟨w1.heap.size, 3, none⟩ = some (.string (dat s)) := by go_simp
  have h0 : (w2.alloc (.cells #[.int .i64 (rd (dat s) 1 3), .int .i64 (rd (dat s) 3 7), .int .i64 (rd (dat s) 7 9), .int .i64 (rd (dat s) 9 10), .int .i64 (rd (dat s) 10 11)] 25)).cell? ⟨w2.heap.size, 0, none⟩ = some (.int .i64 (rd (dat s) 1 3)) := by go_simp
  have h1 : (w2.alloc (.cells #[.int .i64 (rd (dat s) 1 3), .int .i64 (rd (dat s) 3 7), .int .i64 (rd (dat s) 7 9), .int .i64 (rd (dat s) 9 10), .int .i64 (rd (dat s) 10 11)] 25)).cell? ⟨w2.heap.size, 1, none⟩ = some (.int .i64 (rd (dat s) 3 7)) := by go_simp
  have h2 : (w2.alloc (.cells #[.int .i64 (rd (dat s) 1 3), .int .i64 (rd (dat s) 3 7), .int .i64 (rd (dat s) 7 9), .int .i64 (rd (dat s) 9 10), .int .i64 (rd (dat s) 10 11)] 25)).cell? ⟨w2.heap.size, 2, none⟩ = some (.int .i64 (rd (dat s) 7 9)) := by go_simp
  have h3 : (w2.alloc (.cells #[.int .i64 (rd (dat s) 1 3), .int .i64 (rd (dat s) 3 7), .int .i64 (rd (dat s) 7 9), .int .i64 (rd (dat s) 9 10), .int .i64 (rd (dat s) 10 11)] 25)).cell? ⟨w2.heap.size, 3, none⟩ = some (.int .i64 (rd (dat s) 9 10)) := by go_simp
  have h4 : (w2.alloc (.cells #[.int .i64 (rd (dat s) 1 3), .int .i64 (rd (dat s) 3 7), .int .i64 (rd (dat s) 7 9), .int .i64 (rd (dat s) 9 10), .int .i64 (rd (dat s) 10 11)] 25)).cell? ⟨w2.heap.size, 4, none⟩ = some (.int .i64 (rd (dat s) 10 11)) := by go_simp
  have y0 : (w2.alloc (.cells #[.int .i64 (rd (dat s) 1 3), .int .i64 (rd (dat s) 3 7), .int .i64 (rd (dat s) 7 9), .int .i64 (rd (dat s) 9 10), .int .i64 (rd (dat s) 10 11)] 25)).cell? ⟨w.heap.size, 0, none⟩ = some (.int .i64 0) := by go_simp
  have x0 : (w2.alloc (.cells #[.int .i64 (rd (dat s) 1 3), .int .i64 (rd (dat s) 3 7), .int .i64 (rd (dat s) 7 9), .int .i64 (rd (dat s) 9 10), .int .i64 (rd (dat s) 10 11)] 25)).frozen? ⟨w.heap.size, 0, none⟩ = false := by go_simp
  have y1 : (w2.alloc (.cells #[.int .i64 (rd (dat s) 1 3), .int .i64 (rd (dat s) 3 7), .int .i64 (rd (dat s) 7 9), .int .i64 (rd (dat s) 9 10), .int .i64 (rd (dat s) 10 11)] 25)).cell? ⟨w.heap.size, 1, none⟩ = some (.int .i64 0) := by go_simp
  have x1 : (w2.alloc (.cells #[.int .i64 (rd (dat s) 1 3), .int .i64 (rd (dat s) 3 7), .int .i64 (rd (dat s) 7 9), .int .i64 (rd (dat s) 9 10), .int .i64 (rd (dat s) 10 11)] 25)).frozen? ⟨w.heap.size, 1, none⟩ = false := by go_simp
  have y2 : (w2.alloc (.cells #[.int .i64 (rd (dat s) 1 3), .int .i64 (rd (dat s) 3 7), .int .i64 (rd (dat s) 7 9), .int .i64 (rd (dat s) 9 10), .int .i64 (rd (dat s) 10 11)] 25)).cell? ⟨w.heap.size, 2, none⟩ = some (.int .i64 0) := by go_simp
  have x2 : (w2.alloc (.cells #[.int .i64 (rd (dat s) 1 3), .int .i64 (rd (dat s) 3 7), .int .i64 (rd (dat s) 7 9), .int .i64 (rd (dat s) 9 10), .int .i64 (rd (dat s) 10 11)] 25)).frozen? ⟨w.heap.size, 2, none⟩ = false := by go_simp
  have y3 : (w2.alloc (.cells #[.int .i64 (rd (dat s) 1 3), .int .i64 (rd (dat s) 3 7), .int .i64 (rd (dat s) 7 9), .int .i64 (rd (dat s) 9 10), .int .i64 (rd (dat s) 10 11)] 25)).cell? ⟨w.heap.size, 3, none⟩ = some (.int .i64 0) := by go_simp
  have x3 : (w2.alloc (.cells #[.int .i64 (rd (dat s) 1 3), .int .i64 (rd (dat s) 3 7), .int .i64 (rd (dat s) 7 9), .int .i64 (rd (dat s) 9 10), .int .i64 (rd (dat s) 10 11)] 25)).frozen? ⟨w.heap.size, 3, none⟩ = false := by go_simp
  have y4 : (w2.alloc (.cells #[.int .i64 (rd (dat s) 1 3), .int .i64 (rd (dat s) 3 7), .int .i64 (rd (dat s) 7 9), .int .i64 (rd (dat s) 9 10), .int .i64 (rd (dat s) 10 11)] 25)).cell? ⟨w.heap.size, 4, none⟩ = some (.int .i64 0) := by go_simp
  have x4 : (w2.alloc (.cells #[.int .i64 (rd (dat s) 1 3), .int .i64 (rd (dat s) 3 7), .int .i64 (rd (dat s) 7 9), .int .i64 (rd (dat s) 9 10), .int .i64 (rd (dat s) 10 11)] 25)).frozen? ⟨w.heap.size, 4, none⟩ = false := by go_simp
  have B3 : Below w.heap.size w (w2.alloc (.cells #[.int .i64 (rd (dat s) 1 3), .int .i64 (rd (dat s) 3 7), .int .i64 (rd (dat s) 7 9), .int .i64 (rd (dat s) 9 10), .int .i64 (rd (dat s) 10 11)] 25)) := B2.alloc (Nat.le_of_lt z2) _
  clear f20 f21 f22 f23 y20 x20 y21 x21 y22 x22 y23 x23 y24 x24
  generalize (w2.alloc (.cells #[.int .i64 (rd (dat s) 1 3), .int .i64 (rd (dat s) 3 7), .int .i64 (rd (dat s) 7 9), .int .i64 (rd (dat s) 9 10), .int .i64 (rd (dat s) 10 11)] 25)) = W at *
  have G0 := cell_regrown g0
  have G1 := cell_regrown g1
  have G2 := cell_regrown g2
  have G3 := cell_regrown g3
  have H0 := cell_regrown h0
  have H1 := cell_regrown h1
  have H2 := cell_regrown h2
  have H3 := cell_regrown h3
  have H4 := cell_regrown h4
  have n0 : ∀ q os, Calls TryQ.prog 26 #[.int .i64 (rd (dat s) 7 9)] (grow (redrawn W q) os) fun e w'' => e = .returned (.int .i64 (2199023321088 + rd (dat s) 7 9)) ∧ ∃ p : Regrown, w'' = grow (redrawn W p.d) p.os := fun q os => (ref_source _ _ bb.2.2.1 (by omega)).mono fun e w' ⟨h1, h2⟩ => ⟨h1, ⟨⟨q, os⟩, h2.symm⟩⟩
  clear bb
  refine wp_region_quiet_below (by kernel_rfl) (by kernel_rfl) ?_
  repeat (first | go_big_quiet_step (with_reducible exact n0 _ _) | quiet_step (with_reducible exact n0 _ _))
  refine wpQuiet_nil ?_
  intro _ hw'
  obtain ⟨⟨dq, osq⟩, hw''⟩ := hw'
  subst hw''
  have hb7 := below_regrown W dq osq
  have B4 : Below w.heap.size w (grow (redrawn W dq) osq) := B3.trans (hb7.mono (Nat.le_of_lt zz2))
  have y70 := (hb7.cell (p := ⟨w.heap.size, 0, none⟩) zz2).trans y0
  have x70 := (hb7.frozen (p := ⟨w.heap.size, 0, none⟩) zz2).trans x0
  have y71 := (hb7.cell (p := ⟨w.heap.size, 1, none⟩) zz2).trans y1
  have x71 := (hb7.frozen (p := ⟨w.heap.size, 1, none⟩) zz2).trans x1
  have y72 := (hb7.cell (p := ⟨w.heap.size, 2, none⟩) zz2).trans y2
  have x72 := (hb7.frozen (p := ⟨w.heap.size, 2, none⟩) zz2).trans x2
  have y73 := (hb7.cell (p := ⟨w.heap.size, 3, none⟩) zz2).trans y3
  have x73 := (hb7.frozen (p := ⟨w.heap.size, 3, none⟩) zz2).trans x3
  have y74 := (hb7.cell (p := ⟨w.heap.size, 4, none⟩) zz2).trans y4
  have x74 := (hb7.frozen (p := ⟨w.heap.size, 4, none⟩) zz2).trans x4
  have h70 := H0 dq osq
  have h71 := H1 dq osq
  have h72 := H2 dq osq
  have h73 := H3 dq osq
  have h74 := H4 dq osq
  have z7 := Nat.lt_of_lt_of_le zz2 hb7.size
  clear n0 hb7 zz2 G0 g0 G1 g1 G2 g2 G3 g3 H0 h0 y0 x0 H1 h1 y1 x1 H2 h2 y2 x2 H3 h3 y3 x3 H4 h4 y4 x4
  generalize grow (redrawn W dq) osq = W7 at *
  go_wp2_with fail
  refine bodyPost_ret (v := .tuple #[cv 0 0 0 0 0, .int .i64 10]) (by simp [results, Try.results11, go_sem, y70, y71, y72, y73, y74]) rfl ⟨rfl, ?_⟩
  repeat (first | with_reducible exact B4 | refine Below.setCell ?_ (by simp) _ | refine Below.alloc ?_ (by first | with_reducible exact Nat.le_of_lt (by assumption) | (simp; omega)) _)

set_option maxHeartbeats 1000000 in
theorem ref_unwrap_good (s : ByteArray) (w : World) (hs : s.size ≤ maxLen) (hp : pE s = 0) (hd : adr s 0 = 1652522221568) (ht : typ s = 32834) (hc : cE (dat s) = 0) (hs6 : adr s 6 = 2199023321088 + rd (dat s) 7 9) :
    Calls TryQ.prog 11 #[.string s] w fun e w' => e = .returned (.tuple #[cv (rd (dat s) 1 3) (rd (dat s) 3 7) (rd (dat s) 7 9) (rd (dat s) 9 10) (rd (dat s) 10 11), .int .i64 0]) ∧ Below w.heap.size w w' := by
  have HM := Lib.hid hs
  have HP := Lib.hid hp
  have hd' : (adr s 0 != 1652522221568) = false := by simpa using hd
  have ht' : (typ s != 32834) = false := by simpa using ht
  have HD : Hid ((dat s).size ≤ maxLen) := Lib.hid (by rw [dat_size]; exact Nat.le_trans (Nat.sub_le _ _) hs)
  have HC := Lib.hid hc
  have h6' : (adr s 6 != 2199023321088 + rd (dat s) 7 9) = false := by simpa using hs6
  clear hp hd ht hc hs6
  clear hs
  go_enter TryQ.func11, Try.ntmps11
  go_wp2_with fail
  go_at_call 25
  (with_reducible refine (ref_fparse_good _ _ HM.out HP.out).mono ?_)
  rintro e w1 ⟨rfl, hb1⟩
  obtain ⟨hc, hf⟩ := bcell hb1
  have z1 : w.heap.size < w1.heap.size := Nat.lt_of_lt_of_le (by simp) hb1.size
  have y10 : w1.cell? ⟨w.heap.size, 0, none⟩ = some (.int .i64 0) := by rw [hc _ _ (by first | with_reducible assumption | (simp; done) | (simp; omega))]; go_simp
  have x10 : w1.frozen? ⟨w.heap.size, 0, none⟩ = false := by rw [hf _ _ (by first | with_reducible assumption | (simp; done) | (simp; omega))]; go_simp
  have y11 : w1.cell? ⟨w.heap.size, 1, none⟩ = some (.int .i64 0) := by rw [hc _ _ (by first | with_reducible assumption | (simp; done) | (simp; omega))]; go_simp
  have x11 : w1.frozen? ⟨w.heap.size, 1, none⟩ = false := by rw [hf _ _ (by first | with_reducible assumption | (simp; done) | (simp; omega))]; go_simp
  have y12 : w1.cell? ⟨w.heap.size, 2, none⟩ = some (.int .i64 0) := by rw [hc _ _ (by first | with_reducible assumption | (simp; done) | (simp; omega))]; go_simp
  have x12 : w1.frozen? ⟨w.heap.size, 2, none⟩ = false := by rw [hf _ _ (by first | with_reducible assumption | (simp; done) | (simp; omega))]; go_simp
  have y13 : w1.cell? ⟨w.heap.size, 3, none⟩ = some (.int .i64 0) := by rw [hc _ _ (by first | with_reducible assumption | (simp; done) | (simp; omega))]; go_simp
  have x13 : w1.frozen? ⟨w.heap.size, 3, none⟩ = false := by rw [hf _ _ (by first | with_reducible assumption | (simp; done) | (simp; omega))]; go_simp
  have y14 : w1.cell? ⟨w.heap.size, 4, none⟩ = some (.int .i64 0) := by rw [hc _ _ (by first | with_reducible assumption | (simp; done) | (simp; omega))]; go_simp
  have x14 : w1.frozen? ⟨w.heap.size, 4, none⟩ = false := by rw [hf _ _ (by first | with_reducible assumption | (simp; done) | (simp; omega))]; go_simp
  have B1 : Below w.heap.size w w1 := ((Below.refl _ _).alloc (Nat.le_refl _) _).trans (hb1.mono (by simp))
  clear hc hf hb1
  go_wp2_with fail
  go_at_call 10
  (with_reducible refine (ref_cparse_good _ _ HD.out HC.out).mono ?_)
  rintro e w2 ⟨rfl, hb2⟩
  obtain ⟨hc, hf⟩ := bcell hb2
  have z2 : w.heap.size < w2.heap.size := Nat.lt_of_lt_of_le (by first | with_reducible assumption | (simp; done) | (simp; omega)) hb2.size
  have z3 : w1.heap.size < w2.heap.size := Nat.lt_of_lt_of_le (by first | with_reducible assumption | (simp; done) | (simp; omega)) hb2.size
  have y20 : w2.cell? ⟨w.heap.size, 0, none⟩ = some (.int .i64 0) := by rw [hc _ _ (by first | with_reducible assumption | (simp; done) | (simp; omega))]; go_simp
  have x20 : w2.frozen? ⟨w.heap.size, 0, none⟩ = false := by rw [hf _ _ (by first | with_reducible assumption | (simp; done) | (simp; omega))]; go_simp
  have y21 : w2.cell? ⟨w.heap.size, 1, none⟩ = some (.int .i64 0) := by rw [hc _ _ (by first | with_reducible assumption | (simp; done) | (simp; omega))]; go_simp
  have x21 : w2.frozen? ⟨w.heap.size, 1, none⟩ = false := by rw [hf _ _ (by first | with_reducible assumption | (simp; done) | (simp; omega))]; go_simp
  have y22 : w2.cell? ⟨w.heap.size, 2, none⟩ = some (.int .i64 0) := by rw [hc _ _ (by first | with_reducible assumption | (simp; done) | (simp; omega))]; go_simp
  have x22 : w2.frozen? ⟨w.heap.size, 2, none⟩ = false := by rw [hf _ _ (by first | with_reducible assumption | (simp; done) | (simp; omega))]; go_simp
  have y23 : w2.cell? ⟨w.heap.size, 3, none⟩ = some (.int .i64 0) := by rw [hc _ _ (by first | with_reducible assumption | (simp; done) | (simp; omega))]; go_simp
  have x23 : w2.frozen? ⟨w.heap.size, 3, none⟩ = false := by rw [hf _ _ (by first | with_reducible assumption | (simp; done) | (simp; omega))]; go_simp
  have y24 : w2.cell? ⟨w.heap.size, 4, none⟩ = some (.int .i64 0) := by rw [hc _ _ (by first | with_reducible assumption | (simp; done) | (simp; omega))]; go_simp
  have x24 : w2.frozen? ⟨w.heap.size, 4, none⟩ = false := by rw [hf _ _ (by first | with_reducible assumption | (simp; done) | (simp; omega))]; go_simp
  have f20 : w2.cell? ⟨w1.heap.size, 0, none⟩ = some (.int .i64 (adr s 0)) := by rw [hc _ _ (by first | with_reducible assumption | (simp; done) | (simp; omega))]; go_simp
  have f21 : w2.cell? ⟨w1.heap.size, 1, none⟩ = some (.int .i64 (adr s 6)) := by rw [hc _ _ (by first | with_reducible assumption | (simp; done) | (simp; omega))]; go_simp
  have f22 : w2.cell? ⟨w1.heap.size, 2, none⟩ = some (.int .i64 (typ s)) := by rw [hc _ _ (by first | with_reducible assumption | (simp; done) | (simp; omega))]; go_simp
  have f23 : w2.cell? ⟨w1.heap.size, 3, none⟩ = some (.string (dat s)) := by rw [hc _ _ (by first | with_reducible assumption | (simp; done) | (simp; omega))]; go_simp
  have B2 : Below w.heap.size w w2 := (B1.alloc (Nat.le_of_lt z1) _).trans (hb2.mono (by simp; omega))
  clear hc hf hb2 y10 x10 y11 x11 y12 x12 y13 x13 y14 x14
  go_wp2_with fail
  have bb := okC_yes (cE_ok (dat s) HC.out)
  have zz2 : w.heap.size < (w2.alloc (.cells #[.int .i64 (rd (dat s) 1 3), .int .i64 (rd (dat s) 3 7), .int .i64 (rd (dat s) 7 9), .int .i64 (rd (dat s) 9 10), .int .i64 (rd (dat s) 10 11)] 25)).heap.size := by simp; omega
  have g0 : (w2.alloc (.cells #[.int .i64 (rd (dat s) 1 3), .int .i64 (rd (dat s) 3 7), .int .i64 (rd (dat s) 7 9), .int .i64 (rd (dat s) 9 10), .int .i64 (rd (dat s) 10 11)] 25)).cell? ⟨w1.heap.size, 0, none⟩ = some (.int .i64 (adr s 0)) := by go_simp
  have g1 : (w2.alloc (.cells #[.int .i64 (rd (dat s) 1 3), .int .i64 (rd (dat s) 3 7), .int .i64 (rd (dat s) 7 9), .int .i64 (rd (dat s) 9 10), .int .i64 (rd (dat s) 10 11)] 25)).cell? ⟨w1.heap.size, 1, none⟩ = some (.int .i64 (adr s 6)) := by go_simp
  have g2 : (w2.alloc (.cells #[.int .i64 (rd (dat s) 1 3), .int .i64 (rd (dat s) 3 7), .int .i64 (rd (dat s) 7 9), .int .i64 (rd (dat s) 9 10), .int .i64 (rd (dat s) 10 11)] 25)).cell? ⟨w1.heap.size, 2, none⟩ = some (.int .i64 (typ s)) := by go_simp
  have g3 : (w2.alloc (.cells #[.int .i64 (rd (dat s) 1 3), .int .i64 (rd (dat s) 3 7), .int .i64 (rd (dat s) 7 9), .int .i64 (rd (dat s) 9 10), .int .i64 (rd (dat s) 10 11)] 25)).cell? ⟨w1.heap.size, 3, none⟩ = some (.string (dat s)) := by go_simp
  have h0 : (w2.alloc (.cells #[.int .i64 (rd (dat s) 1 3), .int .i64 (rd (dat s) 3 7), .int .i64 (rd (dat s) 7 9), .int .i64 (rd (dat s) 9 10), .int .i64 (rd (dat s) 10 11)] 25)).cell? ⟨w2.heap.size, 0, none⟩ = some (.int .i64 (rd (dat s) 1 3)) := by go_simp
  have h1 : (w2.alloc (.cells #[.int .i64 (rd (dat s) 1 3), .int .i64 (rd (dat s) 3 7), .int .i64 (rd (dat s) 7 9), .int .i64 (rd (dat s) 9 10), .int .i64 (rd (dat s) 10 11)] 25)).cell? ⟨w2.heap.size, 1, none⟩ = some (.int .i64 (rd (dat s) 3 7)) := by go_simp
  have h2 : (w2.alloc (.cells #[.int .i64 (rd (dat s) 1 3), .int .i64 (rd (dat s) 3 7), .int .i64 (rd (dat s) 7 9), .int .i64 (rd (dat s) 9 10), .int .i64 (rd (dat s) 10 11)] 25)).cell? ⟨w2.heap.size, 2, none⟩ = some (.int .i64 (rd (dat s) 7 9)) := by go_simp
  have h3 : (w2.alloc (.cells #[.int .i64 (rd (dat s) 1 3), .int .i64 (rd (dat s) 3 7), .int .i64 (rd (dat s) 7 9), .int .i64 (rd (dat s) 9 10), .int .i64 (rd (dat s) 10 11)] 25)).cell? ⟨w2.heap.size, 3, none⟩ = some (.int .i64 (rd (dat s) 9 10)) := by go_simp
  have h4 : (w2.alloc (.cells #[.int .i64 (rd (dat s) 1 3), .int .i64 (rd (dat s) 3 7), .int .i64 (rd (dat s) 7 9), .int .i64 (rd (dat s) 9 10), .int .i64 (rd (dat s) 10 11)] 25)).cell? ⟨w2.heap.size, 4, none⟩ = some (.int .i64 (rd (dat s) 10 11)) := by go_simp
  have y0 : (w2.alloc (.cells #[.int .i64 (rd (dat s) 1 3), .int .i64 (rd (dat s) 3 7), .int .i64 (rd (dat s) 7 9), .int .i64 (rd (dat s) 9 10), .int .i64 (rd (dat s) 10 11)] 25)).cell? ⟨w.heap.size, 0, none⟩ = some (.int .i64 0) := by go_simp
  have x0 : (w2.alloc (.cells #[.int .i64 (rd (dat s) 1 3), .int .i64 (rd (dat s) 3 7), .int .i64 (rd (dat s) 7 9), .int .i64 (rd (dat s) 9 10), .int .i64 (rd (dat s) 10 11)] 25)).frozen? ⟨w.heap.size, 0, none⟩ = false := by go_simp
  have y1 : (w2.alloc (.cells #[.int .i64 (rd (dat s) 1 3), .int .i64 (rd (dat s) 3 7), .int .i64 (rd (dat s) 7 9), .int .i64 (rd (dat s) 9 10), .int .i64 (rd (dat s) 10 11)] 25)).cell? ⟨w.heap.size, 1, none⟩ = some (.int .i64 0) := by go_simp
  have x1 : (w2.alloc (.cells #[.int .i64 (rd (dat s) 1 3), .int .i64 (rd (dat s) 3 7), .int .i64 (rd (dat s) 7 9), .int .i64 (rd (dat s) 9 10), .int .i64 (rd (dat s) 10 11)] 25)).frozen? ⟨w.heap.size, 1, none⟩ = false := by go_simp
  have y2 : (w2.alloc (.cells #[.int .i64 (rd (dat s) 1 3), .int .i64 (rd (dat s) 3 7), .int .i64 (rd (dat s) 7 9), .int .i64 (rd (dat s) 9 10), .int .i64 (rd (dat s) 10 11)] 25)).cell? ⟨w.heap.size, 2, none⟩ = some (.int .i64 0) := by go_simp
  have x2 : (w2.alloc (.cells #[.int .i64 (rd (dat s) 1 3), .int .i64 (rd (dat s) 3 7), .int .i64 (rd (dat s) 7 9), .int .i64 (rd (dat s) 9 10), .int .i64 (rd (dat s) 10 11)] 25)).frozen? ⟨w.heap.size, 2, none⟩ = false := by go_simp
  have y3 : (w2.alloc (.cells #[.int .i64 (rd (dat s) 1 3), .int .i64 (rd (dat s) 3 7), .int .i64 (rd (dat s) 7 9), .int .i64 (rd (dat s) 9 10), .int .i64 (rd (dat s) 10 11)] 25)).cell? ⟨w.heap.size, 3, none⟩ = some (.int .i64 0) := by go_simp
  have x3 : (w2.alloc (.cells #[.int .i64 (rd (dat s) 1 3), .int .i64 (rd (dat s) 3 7), .int .i64 (rd (dat s) 7 9), .int .i64 (rd (dat s) 9 10), .int .i64 (rd (dat s) 10 11)] 25)).frozen? ⟨w.heap.size, 3, none⟩ = false := by go_simp
  have y4 : (w2.alloc (.cells #[.int .i64 (rd (dat s) 1 3), .int .i64 (rd (dat s) 3 7), .int .i64 (rd (dat s) 7 9), .int .i64 (rd (dat s) 9 10), .int .i64 (rd (dat s) 10 11)] 25)).cell? ⟨w.heap.size, 4, none⟩ = some (.int .i64 0) := by go_simp
  have x4 : (w2.alloc (.cells #[.int .i64 (rd (dat s) 1 3), .int .i64 (rd (dat s) 3 7), .int .i64 (rd (dat s) 7 9), .int .i64 (rd (dat s) 9 10), .int .i64 (rd (dat s) 10 11)] 25)).frozen? ⟨w.heap.size, 4, none⟩ = false := by go_simp
  have B3 : Below w.heap.size w (w2.alloc (.cells #[.int .i64 (rd (dat s) 1 3), .int .i64 (rd (dat s) 3 7), .int .i64 (rd (dat s) 7 9), .int .i64 (rd (dat s) 9 10), .int .i64 (rd (dat s) 10 11)] 25)) := B2.alloc (Nat.le_of_lt z2) _
  clear f20 f21 f22 f23 y20 x20 y21 x21 y22 x22 y23 x23 y24 x24
  generalize (w2.alloc (.cells #[.int .i64 (rd (dat s) 1 3), .int .i64 (rd (dat s) 3 7), .int .i64 (rd (dat s) 7 9), .int .i64 (rd (dat s) 9 10), .int .i64 (rd (dat s) 10 11)] 25)) = W at *
  have G0 := cell_regrown g0
  have G1 := cell_regrown g1
  have G2 := cell_regrown g2
  have G3 := cell_regrown g3
  have H0 := cell_regrown h0
  have H1 := cell_regrown h1
  have H2 := cell_regrown h2
  have H3 := cell_regrown h3
  have H4 := cell_regrown h4
  have n0 : ∀ q os, Calls TryQ.prog 26 #[.int .i64 (rd (dat s) 7 9)] (grow (redrawn W q) os) fun e w'' => e = .returned (.int .i64 (2199023321088 + rd (dat s) 7 9)) ∧ ∃ p : Regrown, w'' = grow (redrawn W p.d) p.os := fun q os => (ref_source _ _ bb.2.2.1 (by omega)).mono fun e w' ⟨h1, h2⟩ => ⟨h1, ⟨⟨q, os⟩, h2.symm⟩⟩
  clear bb
  refine wp_region_quiet_below (by kernel_rfl) (by kernel_rfl) ?_
  repeat (first | go_big_quiet_step (with_reducible exact n0 _ _) | quiet_step (with_reducible exact n0 _ _))
  refine wpQuiet_nil ?_
  intro _ hw'
  obtain ⟨⟨dq, osq⟩, hw''⟩ := hw'
  subst hw''
  have hb7 := below_regrown W dq osq
  have B4 : Below w.heap.size w (grow (redrawn W dq) osq) := B3.trans (hb7.mono (Nat.le_of_lt zz2))
  have y70 := (hb7.cell (p := ⟨w.heap.size, 0, none⟩) zz2).trans y0
  have x70 := (hb7.frozen (p := ⟨w.heap.size, 0, none⟩) zz2).trans x0
  have y71 := (hb7.cell (p := ⟨w.heap.size, 1, none⟩) zz2).trans y1
  have x71 := (hb7.frozen (p := ⟨w.heap.size, 1, none⟩) zz2).trans x1
  have y72 := (hb7.cell (p := ⟨w.heap.size, 2, none⟩) zz2).trans y2
  have x72 := (hb7.frozen (p := ⟨w.heap.size, 2, none⟩) zz2).trans x2
  have y73 := (hb7.cell (p := ⟨w.heap.size, 3, none⟩) zz2).trans y3
  have x73 := (hb7.frozen (p := ⟨w.heap.size, 3, none⟩) zz2).trans x3
  have y74 := (hb7.cell (p := ⟨w.heap.size, 4, none⟩) zz2).trans y4
  have x74 := (hb7.frozen (p := ⟨w.heap.size, 4, none⟩) zz2).trans x4
  have h70 := H0 dq osq
  have h71 := H1 dq osq
  have h72 := H2 dq osq
  have h73 := H3 dq osq
  have h74 := H4 dq osq
  have z7 := Nat.lt_of_lt_of_le zz2 hb7.size
  clear n0 hb7 zz2 G0 g0 G1 g1 G2 g2 G3 g3 H0 h0 y0 x0 H1 h1 y1 x1 H2 h2 y2 x2 H3 h3 y3 x3 H4 h4 y4 x4
  generalize grow (redrawn W dq) osq = W7 at *
  go_wp2_with fail
  refine bodyPost_ret (v := .tuple #[cv (rd (dat s) 1 3) (rd (dat s) 3 7) (rd (dat s) 7 9) (rd (dat s) 9 10) (rd (dat s) 10 11), .int .i64 0]) (by simp [results, Try.results11, go_sem, y70, y71, y72, y73, y74]) rfl ⟨rfl, ?_⟩
  repeat (first | with_reducible exact B4 | refine Below.setCell ?_ (by simp) _ | refine Below.alloc ?_ (by first | with_reducible exact Nat.le_of_lt (by assumption) | (simp; omega)) _)

theorem ref_unwrap_any (s : ByteArray) (w : World) (hs : s.size ≤ maxLen) :
    Calls TryQ.prog 11 #[.string s] w fun e w' => e = .returned (uTup s) ∧ Below w.heap.size w w' := by
  by_cases hp : pE s = 0
  · by_cases hd : adr s 0 = 1652522221568
    · by_cases ht : typ s = 32834
      · by_cases hc : cE (dat s) = 0
        · by_cases h6 : adr s 6 = 2199023321088 + rd (dat s) 7 9
          · exact (ref_unwrap_good s w hs hp hd ht hc h6).mono fun e w' ⟨h1, h2⟩ => ⟨by rw [h1, uTup_good s (by unfold uE; rw [if_neg (by rw [hp]; simp), if_neg (fun k => k ⟨hd, ht⟩), if_neg (by rw [hc]; simp), if_pos h6])], h2⟩
          · exact (ref_unwrap_src s w hs hp hd ht hc h6).mono fun e w' ⟨h1, h2⟩ => ⟨by rw [h1, uTup_bad s 10 (by unfold uE; rw [if_neg (by rw [hp]; simp), if_neg (fun k => k ⟨hd, ht⟩), if_neg (by rw [hc]; simp), if_neg h6]) (by decide)], h2⟩
        · exact (ref_unwrap_data s w hs hp hd ht _ rfl hc).mono fun e w' ⟨h1, h2⟩ => ⟨by rw [h1, uTup_bad s _ (by unfold uE; rw [if_neg (by rw [hp]; simp), if_neg (fun k => k ⟨hd, ht⟩), if_pos hc]) hc], h2⟩
      · exact (ref_unwrap_typ s w hs hp hd ht).mono fun e w' ⟨h1, h2⟩ => ⟨by rw [h1, uTup_bad s 10 (by unfold uE; rw [if_neg (by rw [hp]; simp), if_pos (fun k => ht k.2)]) (by decide)], h2⟩
    · exact (ref_unwrap_dst s w hs hp hd).mono fun e w' ⟨h1, h2⟩ => ⟨by rw [h1, uTup_bad s 10 (by unfold uE; rw [if_neg (by rw [hp]; simp), if_pos (fun k => hd k.1)]) (by decide)], h2⟩
  · exact (ref_unwrap_bad s w hs _ rfl hp).mono fun e w' ⟨h1, h2⟩ => ⟨by rw [h1, uTup_bad s _ (by unfold uE; rw [if_pos hp]) hp], h2⟩
end Go.Proofs.Ytlgfogllkoabpaa.QMacP
