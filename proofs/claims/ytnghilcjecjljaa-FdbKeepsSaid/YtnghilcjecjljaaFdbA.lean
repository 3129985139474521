/-
  Tables and entries: their values, rows that are read, small contracts of fdb and of footwayref08.
-/
import Derived.Test.YtnghilcjecjljaaHashA
import Derived.Test.YtnghilcjecjljaaWheelG2
import Derived.Test.YtnghilcjecjljaaLruC
import Derived.Test.YtnghilcjecjljaaRegAll
namespace Go.Proofs.Ytnghilcjecjljaa.FdbP
open Go.RowKit Go.Sort Go.Proofs.Ytnghilcjecjljaa.SliceP Go.Proofs.Ytnghilcjecjljaa.MacP
set_option linter.unusedVariables false
set_option maxRecDepth 100000

/-- An entry. -/
structure E where
  mac : Int
  port : Int
  seen : Int
  st : Bool
  deriving Inhabited, DecidableEq
def E.cells (x : E) : List Value := [.int .i64 x.mac, .int .i64 x.port, .int .i64 x.seen, .bool x.st]
abbrev ev (m p s : Int) (b : Bool) : Value := .agg #[.int .i64 m, .int .i64 p, .int .i64 s, .bool b]
abbrev E.val (x : E) : Value := ev x.mac x.port x.seen x.st
abbrev eObj (m p s : Int) (b : Bool) : Obj := .cells #[.int .i64 m, .int .i64 p, .int .i64 s, .bool b] 57
def zE : E := ⟨0, 0, 0, false⟩
abbrev tbv (v : Value) (s a : Int) : Value := .agg #[v, .int .i64 s, .int .i64 a]
abbrev tObj (v : Value) (s a : Int) : Obj := .cells #[v, .int .i64 s, .int .i64 a] 24

def macB (a : Int) : Bool := adB a && (classI a == 0)
def portB (p : Int) : Bool := decide (0 ≤ p) && decide (p < 8)
abbrev timeB := WheelP.timeB
def sizesB (n s a : Int) : Bool := numB n && (decide (1 ≤ s) && (decide (s ≤ 4) && (decide (1 ≤ a) && decide (a ≤ 1048576))))
theorem adB_iff {a : Int} : adB a = true ↔ 0 ≤ a ∧ a < 281474976710656 := by unfold adB; rw [decide_eq_true_eq]
theorem macB_ad {a : Int} (h : macB a = true) : 0 ≤ a ∧ a < 281474976710656 := by
  unfold macB at h; rw [Bool.and_eq_true] at h; exact adB_iff.1 h.1
theorem timeB_iff {t : Int} : timeB t = true ↔ 0 ≤ t ∧ t ≤ 1099511627776 := by unfold timeB WheelP.timeB; simp
theorem portB_iff {t : Int} : portB t = true ↔ 0 ≤ t ∧ t < 8 := by unfold portB; simp

/-! Small functions of fdb. -/
set_option maxHeartbeats 1000000 in
theorem count_is (n : Int) (w : World) (hn : n ≤ 9223372036854775807) : Calls Try.prog 57 #[.int .i64 n] w fun e w' => e = .returned (.bool (numB n)) ∧ Below w.heap.size w w' := by
  cases h : numB n
  · go_enter Try.func57, Try.ntmps57
    go_wp2_with fail
    go_at_call 70
    (with_reducible refine (bucket_size 0 n _ hn h).mono ?_)
    rintro e w1 ⟨rfl, rfl⟩
    go_wp2_with fail
    go_ret
    exact ⟨rfl, Below.refl _ _⟩
  · go_enter Try.func57, Try.ntmps57
    go_wp2_with fail
    go_at_call 70
    (with_reducible refine (bucket_yes 0 n _ (by omega) (by omega) h).mono ?_)
    rintro e w1 ⟨rfl, hb⟩
    go_wp2_with fail
    go_ret
    exact ⟨rfl, hb⟩
set_option maxHeartbeats 2000000 in
theorem sizes_any (n s a : Int) (w : World) (hn : n ≤ 9223372036854775807) : Calls Try.prog 32 #[.int .i64 n, .int .i64 s, .int .i64 a] w fun e w' => e = .returned (.bool (sizesB n s a)) ∧ Below w.heap.size w w' := by
  unfold sizesB
  have hc := count_is n w hn
  clear hn
  cases h0 : numB n
  · rw [h0] at hc
    clear h0
    go_enter Try.func32, Try.ntmps32
    go_wp2_with fail
    go_at_call 57
    (with_reducible refine hc.mono ?_)
    rintro e w1 ⟨rfl, hb⟩
    clear hc
    go_wp2_with fail
    go_ret
    exact ⟨rfl, hb⟩
  · rw [h0] at hc
    clear h0
    cases h1 : decide (1 ≤ s) <;> cases h2 : decide (s ≤ 4) <;> cases h3 : decide (1 ≤ a) <;> cases h4 : decide (a ≤ 1048576)
    all_goals
      go_enter Try.func32, Try.ntmps32
      go_wp2_with fail
      go_at_call 57
      (with_reducible refine hc.mono ?_)
      rintro e w1 ⟨rfl, hb⟩
      clear hc
      go_wp2_with fail
      go_ret
      exact ⟨rfl, hb⟩
theorem sizes_is (n s a : Int) (w : World) (hn : n ≤ 9223372036854775807) (b : Bool) (hb : sizesB n s a = b) : Calls Try.prog 32 #[.int .i64 n, .int .i64 s, .int .i64 a] w fun e w' => e = .returned (.bool b) ∧ Below w.heap.size w w' := by
  subst hb; exact sizes_any n s a w hn
set_option maxHeartbeats 1000000 in
theorem station_any (a : Int) (w : World) : Calls Try.prog 33 #[.int .i64 a] w fun e w' => e = .returned (.bool (macB a)) ∧ w = w' := by
  unfold macB
  cases h : adB a
  · have h' : a < 0 ∨ 281474976710656 ≤ a := by
      have := mt adB_iff.2 (by rw [h]; simp)
      omega
    clear h
    go_enter Try.func33, Try.ntmps33
    go_wp2_with fail
    go_at_call 58
    (with_reducible refine (class_no a _ h').mono ?_)
    rintro e w1 ⟨rfl, rfl⟩
    clear h'
    go_wp2_with fail
    go_ret
    exact ⟨rfl, rfl⟩
  · obtain ⟨h0, h1⟩ := adB_iff.1 h
    clear h
    cases hc : classI a == 0
    all_goals
      go_enter Try.func33, Try.ntmps33
      go_wp2_with fail
      go_at_call 58
      (with_reducible refine (class_yes a _ h0 h1).mono ?_)
      rintro e w1 ⟨rfl, rfl⟩
      clear h0 h1
      generalize classI a = c at *
      go_wp2_with fail
      go_ret
      exact ⟨rfl, rfl⟩
theorem station_is (a : Int) (w : World) (b : Bool) (hb : macB a = b) : Calls Try.prog 33 #[.int .i64 a] w fun e w' => e = .returned (.bool b) ∧ w = w' := by
  subst hb; exact station_any a w
set_option maxHeartbeats 400000 in
theorem port_any (p : Int) (w : World) : Calls Try.prog 34 #[.int .i64 p] w fun e w' => e = .returned (.bool (portB p)) ∧ w = w' := by
  unfold portB
  cases h0 : decide (0 ≤ p) <;> cases h1 : decide (p < 8)
  all_goals
    go_enter Try.func34, Try.ntmps34
    go_wp2
    go_ret
    exact ⟨rfl, rfl⟩
theorem port_is (p : Int) (w : World) (b : Bool) (hb : portB p = b) : Calls Try.prog 34 #[.int .i64 p] w fun e w' => e = .returned (.bool b) ∧ w = w' := by
  subst hb; exact port_any p w
theorem right_one (t : Int) : WheelP.rightB [⟨0, t⟩] = timeB t := by
  unfold WheelP.rightB WheelP.rightK WheelP.badB WheelP.T.ok WheelP.okB WheelP.hasI
  simp
set_option maxHeartbeats 1000000 in
theorem time_any (t : Int) (w : World) : Calls Try.prog 35 #[.int .i64 t] w fun e w' => e = .returned (.bool (timeB t)) ∧ Below w.heap.size w w' := by
  have hS := Lib.hid (WheelP.sl_lit w 0 t w.heap.size rfl)
  have hr : ∀ W, WheelP.SlT W (some ⟨w.heap.size, 0, none⟩) [⟨0, t⟩] → Calls Try.prog 59 #[.slice (some ⟨w.heap.size, 0, none⟩) 1 1] W fun e w' => e = .returned (.bool (timeB t)) ∧ Below W.heap.size W w' := fun W h => by
    rw [← right_one]
    exact WheelP.right_short (some ⟨w.heap.size, 0, none⟩) 1 [⟨0, t⟩] W (by simp) (by simp) h
  replace hr := Lib.hid hr
  go_enter Try.func35, Try.ntmps35
  go_wp2_with fail
  go_at_call 59
  (with_reducible refine (hr.out _ hS.out).mono ?_)
  rintro e w1 ⟨rfl, hb⟩
  have B1 : Below w.heap.size w w1 := bt ((Below.refl _ _).alloc (Nat.le_refl _) _) hb
  clear hb
  go_wp2_with fail
  go_ret
  exact ⟨rfl, B1⟩
theorem time_is (t : Int) (w : World) (b : Bool) (hb : timeB t = b) : Calls Try.prog 35 #[.int .i64 t] w fun e w' => e = .returned (.bool b) ∧ Below w.heap.size w w' := by
  subst hb; exact time_any t w
/-- now − seen. -/
def oldI (st : Bool) (seen age now : Int) : Bool := !st && decide (age < now - seen)
set_option maxHeartbeats 1000000 in
theorem isOld_any (m p s : Int) (b : Bool) (age now : Int) (w : World) (hs : 0 ≤ s ∧ s ≤ 1099511627776) (hn : 0 ≤ now ∧ now ≤ 1099511627776) :
    Calls Try.prog 39 #[ev m p s b, .int .i64 age, .int .i64 now] w fun e w' => e = .returned (.bool (oldI b s age now)) ∧ Below w.heap.size w w' := by
  have w1 : IntKind.i64.wrap (now - s) = now - s := IntWalk.i64_in _ (by omega)
  clear hs hn
  unfold oldI
  cases b <;> cases h : decide (age < now - s)
  all_goals
    go_enter Try.func39, Try.ntmps39
    go_wp2
    go_ret
    exact ⟨rfl, (Below.refl _ _).alloc (Nat.le_refl _) _⟩
set_option maxHeartbeats 400000 in
theorem pin_any (a p : Int) (w : World) : Calls Try.prog 50 #[.int .i64 a, .int .i64 p] w fun e w' => e = .returned (ev a p 0 true) ∧ Below w.heap.size w w' := by
  go_enter Try.func50, Try.ntmps50
  go_wp2
  refine bodyPost_ret (v := ev a p 0 true) (by simp [results, Try.results50, go_sem]) rfl ⟨rfl, ?_⟩
  exact (Below.refl _ _).alloc (Nat.le_refl _) _

/-! Small functions of footwayref08. -/
set_option maxHeartbeats 400000 in
theorem r_port_any (p : Int) (w : World) : Calls Try.prog 21 #[.int .i64 p] w fun e w' => e = .returned (.bool (portB p)) ∧ w = w' := by
  unfold portB
  have e : decide (p < 8) = decide (p ≤ 7) := by simp; omega
  rw [e]
  cases h0 : decide (0 ≤ p) <;> cases h1 : decide (p ≤ 7)
  all_goals
    go_enter Try.func21, Try.ntmps21
    go_wp2
    go_ret
    exact ⟨rfl, rfl⟩
theorem r_port_is (p : Int) (w : World) (b : Bool) (hb : portB p = b) : Calls Try.prog 21 #[.int .i64 p] w fun e w' => e = .returned (.bool b) ∧ w = w' := by
  subst hb; exact r_port_any p w
set_option maxHeartbeats 400000 in
theorem r_time_any (p : Int) (w : World) : Calls Try.prog 19 #[.int .i64 p] w fun e w' => e = .returned (.bool (timeB p)) ∧ w = w' := by
  unfold timeB WheelP.timeB
  cases h0 : decide (0 ≤ p) <;> cases h1 : decide (p ≤ 1099511627776)
  all_goals
    go_enter Try.func19, Try.ntmps19
    go_wp2
    go_ret
    exact ⟨rfl, rfl⟩
theorem r_time_is (p : Int) (w : World) (b : Bool) (hb : timeB p = b) : Calls Try.prog 19 #[.int .i64 p] w fun e w' => e = .returned (.bool b) ∧ w = w' := by
  subst hb; exact r_time_any p w
set_option maxHeartbeats 1000000 in
theorem r_mac_any (a : Int) (w : World) : Calls Try.prog 18 #[.int .i64 a] w fun e w' => e = .returned (.bool (macB a)) ∧ w = w' := by
  unfold macB
  cases h : adB a
  · have h' : a < 0 ∨ 281474976710656 ≤ a := by
      have := mt adB_iff.2 (by rw [h]; simp)
      omega
    clear h
    go_enter Try.func18, Try.ntmps18
    go_wp2_with fail
    go_at_call 45
    (with_reducible refine (ref_right_no a _ h').mono ?_)
    rintro e w1 ⟨rfl, rfl⟩
    clear h'
    go_wp2_with fail
    go_ret
    exact ⟨rfl, rfl⟩
  · obtain ⟨h0, h1⟩ := adB_iff.1 h
    clear h
    cases hc : classI a == 0
    all_goals
      go_enter Try.func18, Try.ntmps18
      go_wp2_with fail
      go_at_call 45
      (with_reducible refine (ref_right_yes a _ h0 h1).mono ?_)
      rintro e w1 ⟨rfl, rfl⟩
      go_wp2_with fail
      go_at_call 46
      (with_reducible refine (ref_class a _ h0 h1).mono ?_)
      rintro e w1 ⟨rfl, rfl⟩
      clear h0 h1
      generalize classI a = c at *
      go_wp2_with fail
      go_ret
      exact ⟨rfl, rfl⟩
theorem r_mac_is (a : Int) (w : World) (b : Bool) (hb : macB a = b) : Calls Try.prog 18 #[.int .i64 a] w fun e w' => e = .returned (.bool b) ∧ w = w' := by
  subst hb; exact r_mac_any a w
set_option maxHeartbeats 1000000 in
theorem r_number_any (n : Int) (w : World) : Calls Try.prog 43 #[.int .i64 n] w fun e w' => e = .returned (.bool (numB n)) ∧ w = w' := by
  unfold numB
  cases h1 : n == 1 <;> cases h2 : n == 2 <;> cases h4 : n == 4 <;> cases h8 : n == 8 <;> cases h16 : n == 16
  all_goals
    go_enter Try.func43, Try.ntmps43
    go_wp2
    go_ret
    exact ⟨rfl, rfl⟩
set_option maxHeartbeats 2000000 in
theorem r_sizes_any (n s a : Int) (w : World) : Calls Try.prog 15 #[.int .i64 n, .int .i64 s, .int .i64 a] w fun e w' => e = .returned (.bool (sizesB n s a)) ∧ w = w' := by
  unfold sizesB
  have hc := r_number_any n w
  cases h0 : numB n
  · rw [h0] at hc
    clear h0
    go_enter Try.func15, Try.ntmps15
    go_wp2_with fail
    go_at_call 43
    (with_reducible refine hc.mono ?_)
    rintro e w1 ⟨rfl, rfl⟩
    clear hc
    go_wp2_with fail
    go_ret
    exact ⟨rfl, rfl⟩
  · rw [h0] at hc
    clear h0
    cases h1 : decide (1 ≤ s) <;> cases h2 : decide (s ≤ 4) <;> cases h3 : decide (1 ≤ a) <;> cases h4 : decide (a ≤ 1048576)
    all_goals
      go_enter Try.func15, Try.ntmps15
      go_wp2_with fail
      go_at_call 43
      (with_reducible refine hc.mono ?_)
      rintro e w1 ⟨rfl, rfl⟩
      clear hc
      go_wp2_with fail
      go_ret
      exact ⟨rfl, rfl⟩
theorem r_sizes_is (n s a : Int) (w : World) (b : Bool) (hb : sizesB n s a = b) : Calls Try.prog 15 #[.int .i64 n, .int .i64 s, .int .i64 a] w fun e w' => e = .returned (.bool b) ∧ w = w' := by
  subst hb; exact r_sizes_any n s a w
set_option maxHeartbeats 2000000 in
theorem r_sum_any (a : Int) (w : World) (h0 : 0 ≤ a) (h1 : a < 281474976710656) : Calls Try.prog 82 #[.int .i64 a] w fun e w' => e = .returned (.int .i64 (sumI a)) ∧ Below w.heap.size w w' := by
  go_enter Try.func82, Try.ntmps82
  go_wp2_with fail
  go_at_call 94
  (with_reducible refine (ref_bytes a _ h0 h1).mono ?_)
  rintro e w1 ⟨rfl, hb⟩
  go_wp2_with fail
  go_loop [3, 5] (fun s i => ∃ k : Nat, k ≤ 6 ∧ i = .int .i64 k ∧ s = .int .i64 (sumK a k)) (fun _ i => 6 - (intOf i).toNat)
  case atStart => exact ⟨0, by omega, rfl, rfl⟩
  case round =>
    obtain ⟨k, hk, rfl, rfl⟩ := hrel
    by_cases hlt : k < 6
    · have hix := fun w => byte_at a k hlt w
      obtain ⟨q0, q1⟩ := bAt_bd a k
      obtain ⟨b, hb⟩ : ∃ b : Nat, bAt a k = (b : Int) := ⟨(bAt a k).toNat, by omega⟩
      have hb2 : (bAt a k).toNat = b := by omega
      have hS : Hid (sumK a (k + 1) = stepH (sumK a k) b) := Lib.hid (by rw [← hb2]; rfl)
      have hsl := sumK_lt a k
      rw [hb] at hix
      have hb256 : b < 256 := by omega
      clear hb hb2 q0 q1
      generalize sumK a k = s at *
      have hxl : s ^^^ b < 2 ^ 32 := Nat.xor_lt_two_pow (by omega) (by omega)
      have hcv : IntKind.i64.wrap (b : Int) = (b : Int) := IntWalk.i64_in _ (by omega)
      have hm1 : IntKind.i64.wrap (((s ^^^ b : Nat) : Int) * 16777619) = ((s ^^^ b : Nat) : Int) * 16777619 := IntWalk.i64_in _ (by omega)
      have hm2 : (((s ^^^ b : Nat) : Int) * 16777619).tmod 4294967296 = ((stepH s b : Nat) : Int) := by
        rw [Int.tmod_eq_emod_of_nonneg (by omega)]; unfold stepH; omega
      have hsl2 : stepH s b < 4294967296 := Nat.mod_lt _ (by decide)
      have hm3 : IntKind.i64.wrap ((stepH s b : Nat) : Int) = ((stepH s b : Nat) : Int) := IntWalk.i64_in _ (by omega)
      clear hxl hsl2
      go_wp2_with fail
      go_at_call 95
      (with_reducible refine (turned_any s b _ hsl (by omega)).mono ?_)
      rintro e w2 ⟨rfl, rfl⟩
      generalize s ^^^ b = x at *
      go_wp2_with fail
      go_round
      case rel => exact ⟨k + 1, by omega, by go_num, by rw [hS.out]⟩
      case measure => simp [intOf]; omega
    · obtain rfl : k = 6 := by omega
      go_wp2_with fail
      go_ret
      exact ⟨rfl, hb⟩
set_option maxHeartbeats 1000000 in
theorem r_bucket_any (a n : Int) (w : World) (h0 : 0 ≤ a) (h1 : a < 281474976710656) (h : numB n = true) : Calls Try.prog 67 #[.int .i64 a, .int .i64 n] w fun e w' => e = .returned (.int .i64 (bucketI a n)) ∧ Below w.heap.size w w' := by
  have hn := numB_cases h
  have hn0 : (n == 0) = false := by rw [beq_eq_false_iff_ne]; omega
  have hn1 : ¬ (n = 0) := by omega
  obtain ⟨q0, q1⟩ := sumI_bd a
  have hr : (sumI a).tmod n = bucketI a n := Int.tmod_eq_emod_of_nonneg q0
  have hbd : 0 ≤ bucketI a n ∧ bucketI a n < 16 := ⟨Int.emod_nonneg _ (by omega), by have := Int.emod_lt_of_pos (sumI a) (show 0 < n by omega); show sumI a % n < 16; omega⟩
  have hw : IntKind.i64.wrap (bucketI a n) = bucketI a n := IntWalk.i64_in _ (by omega)
  have hm1 : (n == -1) = false := by rw [beq_eq_false_iff_ne]; omega
  replace hn := Lib.hid hn
  clear h hbd
  generalize bucketI a n = bk at *
  go_enter Try.func67, Try.ntmps67
  go_wp2_with fail
  go_at_call 82
  (with_reducible refine (r_sum_any a _ h0 h1).mono ?_)
  rintro e w1 ⟨rfl, hb⟩
  generalize sumI a = s at *
  clear q0 q1 h0 h1
  go_wp2_with fail
  go_ret
  exact ⟨rfl, hb⟩
end Go.Proofs.Ytnghilcjecjljaa.FdbP
