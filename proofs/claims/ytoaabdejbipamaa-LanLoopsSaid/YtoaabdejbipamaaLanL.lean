/-
  LanTells.
-/
import Derived.Test.YtoaabdejbipamaaLanY
import Derived.Test.YtoaabdejbipamaaLanO
import Derived.Test.YtoaabdejbipamaaLanP
import Derived.BigRegion
namespace Go.Proofs.Ytoaabdejbipamaa.LanP
open Go.RowKit Go.Sort Go.Proofs.Ytoaabdejbipamaa.SliceP Go.Proofs.Ytoaabdejbipamaa.BoxP
open Go.Proofs.Ytoaabdejbipamaa.IntP (RowI SlI OwnI)
open Go.Proofs.Ytoaabdejbipamaa.BoolP (RowB SlB OwnB)
open Go.Proofs.Ytoaabdejbipamaa.MacP (classI class_yes class_no ref_right_no ref_right_yes ref_class)
open Go.Proofs.Ytoaabdejbipamaa.LruP (hasI placeI has_more has_hit place_hit place_none place_geq has_true has_false ref_has_is)
set_option linter.unusedVariables false
set_option maxRecDepth 100000
theorem alive_is (w : World) : Calls Try.prog 14 #[] w fun e w' => e = .returned (.bool true) ∧ Below w.heap.size w w' := o_alive w
theorem why_not {l : L} (h : l.ok = false) (s : Int) : whyI l s = 1 := by unfold whyI; rw [if_neg (by rw [h]; simp)]
theorem why_far {l : L} (h : l.ok = true) {s : Int} (hs : ¬ (0 ≤ s ∧ s < l.segs)) : whyI l s = 3 := by unfold whyI; rw [if_pos h, if_neg hs]
theorem why_in {l : L} (h : l.ok = true) {s : Int} (h0 : 0 ≤ s) (h1 : s < l.segs) : whyI l s = 0 := by unfold whyI; rw [if_pos h, if_pos ⟨h0, h1⟩]
theorem hostsOf_len (l : L) (s : Int) (h : Small l) : (hostsOf l.hosts s).length ≤ 1000 := by
  have := List.length_filter_le (fun x : Hs => x.2 == s) l.hosts
  have := h.hosts
  unfold hostsOf
  omega
theorem portsTo_len (p : P) (s b : Int) : ∀ k, (portsTo p s b k).length ≤ k
  | 0 => by simp [portsTo]
  | k + 1 => by
    have ih := portsTo_len p s b k
    unfold portsTo at ih ⊢
    rw [flat_succ, List.length_append]
    have : (portAt p s b k).length ≤ 1 := by
      unfold portAt
      split
      · split <;> simp
      · simp
    omega
theorem portsRow_len (l : L) (s : Int) (h : Small l) (b : Nat) : (portsRow l.plans s b).length ≤ 10 := by
  unfold portsRow
  split
  · rename_i p hp
    have := h.ports p (List.mem_of_getElem? hp)
    have := portsTo_len p s b p.ports.length
    omega
  · simp
theorem portsOf_len (l : L) (s : Int) (h : Small l) : (portsOf l.plans s).length ≤ 1000 := by
  unfold portsOf
  have h1 := fm_len (portsRow l.plans s) 10 (List.range l.plans.length) (fun b _ => portsRow_len l s h b)
  have := h.plans
  rw [List.length_range] at h1
  omega
set_option maxHeartbeats 16000000 in
theorem tells_law {l : L} {A : Option Addr} {c : Nat} {B : Option Addr} {d : Nat} {w : World} (hr : LanR w l A c B d) (seg : Int) : Calls Try.prog 3 #[lv l A c B d, .int .i64 seg] w (True1 w) := by
  obtain ⟨w0, hw0, X0, R0, B0⟩ := new3 w hr
  have hF := Lib.hid (o_few hr B0)
  have hsm := Lib.hid (few_small l)
  replace X0 := Lib.hid X0
  replace B0 := Lib.hid B0
  clear hr R0
  go_enter Try.func3, Try.ntmps3
  go_upto_region 1 with fail
  rw [← hw0]
  clear hw0
  have x0 := X0.out.c (i := 0) rfl
  have x1 := X0.out.c (i := 1) rfl
  have x2 := X0.out.c (i := 2) rfl
  have zz := X0.out.lt
  go_wp2_with fail
  go_at_call 7
  (with_reducible refine hF.out.mono ?_)
  rintro e w1 ⟨A1, c1, rfl, hb1, hK⟩
  obtain ⟨m, hm⟩ : ∃ m, l.few = m := ⟨_, rfl⟩
  rw [hm] at hK hsm ⊢
  replace hm := Lib.hid hm
  clear x0 x1 x2 zz
  have X1 := Lib.hid (X0.out.below hb1)
  have x0 := X1.out.c (i := 0) rfl
  have x1 := X1.out.c (i := 1) rfl
  have x2 := X1.out.c (i := 2) rfl
  have f0 := X1.out.f 0
  have f1 := X1.out.f 1
  have f2 := X1.out.f 2
  have zz := X1.out.lt
  have B1 := Lib.hid (bt B0.out hb1)
  obtain ⟨w2, hw2⟩ : ∃ W, W = ((w1.setCell ⟨w.heap.size, 0, none⟩ (.int .i64 m.segs)).setCell ⟨w.heap.size, 1, none⟩ (.slice A1 m.plans.length c1)).setCell ⟨w.heap.size, 2, none⟩ (.slice B m.hosts.length d) := ⟨_, rfl⟩
  have X2 := Lib.hid (show Bx w2 w.heap.size 25 #[.int .i64 m.segs, .slice A1 m.plans.length c1, .slice B m.hosts.length d] by rw [hw2]; exact Bx.three X1.out)
  have B2 := Lib.hid (show Below w.heap.size w w2 by rw [hw2]; exact below3 B1.out (Nat.le_refl _) _ _ _)
  have R2 := Lib.hid (hK w.heap.size w2 X0.out.lt (by rw [hw2]; exact ((setCell_grown _ _ _ _).trans (setCell_grown _ _ _ _)).trans (setCell_grown _ _ _ _)) B2.out)
  go_upto_region 2 with fail
  rw [← hw2]
  have z2 := X2.out.lt
  clear hw2 hb1 hK x0 x1 x2 f0 f1 f2 zz X0 X1 B0 B1 hF
  cases ho : m.ok
  · have hw1 := Lib.hid (why_not ho seg)
    replace ho := Lib.hid ho
    have o_X_0 := X2.out.c (i := 0) rfl
    have o_X_1 := X2.out.c (i := 1) rfl
    have o_X_2 := X2.out.c (i := 2) rfl
    go_wp2_with fail
    clear o_X_0 o_X_1 o_X_2
    go_at_call 8
    (with_reducible refine (o_on_no R2.out hsm.out seg hw1.out (by decide)).mono ?_)
    rintro e w101 ⟨rfl, hb101⟩
    have X_w101 := Lib.hid (X2.out.below hb101)
    have R_w101 := Lib.hid (R2.out.below hb101)
    have z0_w101 : w.heap.size < w101.heap.size := Nat.lt_of_lt_of_le z2 hb101.size
    clear X2 R2 z2
    have o_X_0 := X_w101.out.c (i := 0) rfl
    have o_X_1 := X_w101.out.c (i := 1) rfl
    have o_X_2 := X_w101.out.c (i := 2) rfl
    go_wp2_with fail
    clear o_X_0 o_X_1 o_X_2
    go_at_call 9
    (with_reducible refine (o_part_no R_w101.out hsm.out seg hw1.out (by decide)).mono ?_)
    rintro e w102 ⟨rfl, hb102⟩
    have X_w102 := Lib.hid (X_w101.out.below hb102)
    have R_w102 := Lib.hid (R_w101.out.below hb102)
    have z0_w102 : w.heap.size < w102.heap.size := Nat.lt_of_lt_of_le z0_w101 hb102.size
    have B_w102 := bt hb101 hb102
    clear X_w101 R_w101 z0_w101 hb101 hb102
    have o_X_0 := X_w102.out.c (i := 0) rfl
    have o_X_1 := X_w102.out.c (i := 1) rfl
    have o_X_2 := X_w102.out.c (i := 2) rfl
    go_wp2_with fail
    clear o_X_0 o_X_1 o_X_2
    go_at_call 10
    (with_reducible refine (o_parts_no R_w102.out hsm.out ho.out).mono ?_)
    rintro e w103 ⟨rfl, hb103⟩
    have X_w103 := Lib.hid (X_w102.out.below hb103)
    have R_w103 := Lib.hid (R_w102.out.below hb103)
    have z0_w103 : w.heap.size < w103.heap.size := Nat.lt_of_lt_of_le z0_w102 hb103.size
    have B_w103 := bt B_w102 hb103
    clear X_w102 R_w102 z0_w102 B_w102 hb103
    have o_X_0 := X_w103.out.c (i := 0) rfl
    have o_X_1 := X_w103.out.c (i := 1) rfl
    have o_X_2 := X_w103.out.c (i := 2) rfl
    go_wp2_with fail
    clear o_X_0 o_X_1 o_X_2
    go_at_call 11
    (with_reducible refine (o_loops_no R_w103.out hsm.out ho.out).mono ?_)
    rintro e w104 ⟨rfl, hb104⟩
    have X_w104 := Lib.hid (X_w103.out.below hb104)
    have R_w104 := Lib.hid (R_w103.out.below hb104)
    have z0_w104 : w.heap.size < w104.heap.size := Nat.lt_of_lt_of_le z0_w103 hb104.size
    have B_w104 := bt B_w103 hb104
    clear X_w103 R_w103 z0_w103 B_w103 hb104
    go_upto_region 6 with fail
    have K_X_0 := cell_regrown (X_w104.out.c (i := 0) rfl)
    have K_X_1 := cell_regrown (X_w104.out.c (i := 1) rfl)
    have K_X_2 := cell_regrown (X_w104.out.c (i := 2) rfl)
    have cC0 := fun (d : Nat) (os : Array Obj) => Calls.regrown_of (o_right (R_w104.out.below (below_regrown w104 d os)) hsm.out ho.out)
    have cC1 := fun (d : Nat) (os : Array Obj) => Calls.regrown_of (r_right (R_w104.out.below (below_regrown w104 d os)) hsm.out ho.out)
    have cC2 := fun (d : Nat) (os : Array Obj) => Calls.regrown_of (alive_is (Go.Sort.grow (redrawn w104 d) os))
    refine wp_region_quiet_below (by kernel_rfl) (by kernel_rfl) ?_
    repeat (first | go_big_quiet_step (first | with_reducible exact cC0 _ _ | with_reducible exact cC1 _ _ | with_reducible exact cC2 _ _) | quiet_step (first | with_reducible exact cC0 _ _ | with_reducible exact cC1 _ _ | with_reducible exact cC2 _ _))
    refine wpQuiet_nil ?_
    intro _ hw'
    obtain ⟨⟨dq, osq⟩, hw''⟩ := hw'
    subst hw''
    have hqw105 := below_regrown w104 dq osq
    clear K_X_0 K_X_1 K_X_2 cC0 cC1 cC2
    generalize Go.Sort.grow (redrawn w104 dq) osq = w105 at *
    have X_w105 := Lib.hid (X_w104.out.below hqw105)
    have R_w105 := Lib.hid (R_w104.out.below hqw105)
    have z0_w105 : w.heap.size < w105.heap.size := Nat.lt_of_lt_of_le z0_w104 hqw105.size
    have B_w105 := bt B_w104 hqw105
    clear X_w104 R_w104 z0_w104 B_w104 hqw105
    have o_X_0 := X_w105.out.c (i := 0) rfl
    have o_X_1 := X_w105.out.c (i := 1) rfl
    have o_X_2 := X_w105.out.c (i := 2) rfl
    go_wp2_with fail
    clear o_X_0 o_X_1 o_X_2
    go_at_call 13
    (with_reducible refine (r_right R_w105.out hsm.out ho.out).mono ?_)
    rintro e w106 ⟨rfl, hb106⟩
    have X_w106 := Lib.hid (X_w105.out.below hb106)
    have R_w106 := Lib.hid (R_w105.out.below hb106)
    have z0_w106 : w.heap.size < w106.heap.size := Nat.lt_of_lt_of_le z0_w105 hb106.size
    have B_w106 := bt B_w105 hb106
    clear X_w105 R_w105 z0_w105 B_w105 hb106
    go_wp2_with fail
    go_ret
    exact ⟨rfl, bt B2.out B_w106⟩
  · have hok := ok_segs ho
    obtain ⟨r, hr9⟩ : ∃ r, m.parts = r := ⟨_, rfl⟩
    obtain ⟨q, hq9⟩ : ∃ q, m.loops = q := ⟨_, rfl⟩
    have hfit := Lib.hid (ok_fit ho)
    have h8 := Lib.hid (ok_small8 ho)
    replace hr9 := Lib.hid hr9
    replace hq9 := Lib.hid hq9
    by_cases hin : 0 ≤ seg ∧ seg < m.segs
    · obtain ⟨s, hs9⟩ : ∃ s : Nat, seg = (s : Int) := ⟨seg.toNat, by omega⟩
      subst hs9
      have hw1 := Lib.hid (why_in ho hin.1 hin.2)
      have hsn := Lib.hid (show s < m.n by omega)
      have hpl := Lib.hid (part_len m (s : Int))
      have hin2 : (s : Int) < m.segs := hin.2
      replace ho := Lib.hid ho
      replace hok := Lib.hid hok
      replace hin := Lib.hid hin
      have o_X_0 := X2.out.c (i := 0) rfl
      have o_X_1 := X2.out.c (i := 1) rfl
      have o_X_2 := X2.out.c (i := 2) rfl
      go_wp2_with fail
      clear o_X_0 o_X_1 o_X_2
      go_at_call 8
      (with_reducible refine (o_on_ok R2.out hsm.out hw1.out).mono ?_)
      rintro e w201 ⟨AH, cH, AP, cP, rfl, rH, rP, hb201⟩
      have X_w201 := Lib.hid (X2.out.below hb201)
      have R_w201 := Lib.hid (R2.out.below hb201)
      have H_w201 := Lib.hid (rH)
      have P_w201 := Lib.hid (rP)
      have z0_w201 : w.heap.size < w201.heap.size := Nat.lt_of_lt_of_le z2 hb201.size
      clear X2 R2 z2
      have o_X_0 := X_w201.out.c (i := 0) rfl
      have o_X_1 := X_w201.out.c (i := 1) rfl
      have o_X_2 := X_w201.out.c (i := 2) rfl
      go_wp2_with fail
      clear o_X_0 o_X_1 o_X_2
      go_at_call 9
      (with_reducible refine (o_part_ok R_w201.out hsm.out ho.out hsn.out).mono ?_)
      rintro e w202 ⟨AN, cN, rfl, rN, hb202⟩
      have X_w202 := Lib.hid (X_w201.out.below hb202)
      have R_w202 := Lib.hid (R_w201.out.below hb202)
      have H_w202 := Lib.hid (H_w201.out.below hb202)
      have P_w202 := Lib.hid (P_w201.out.below hb202)
      have N_w202 := Lib.hid (rN)
      have z0_w202 : w.heap.size < w202.heap.size := Nat.lt_of_lt_of_le z0_w201 hb202.size
      have B_w202 := bt hb201 hb202
      clear X_w201 R_w201 H_w201 P_w201 z0_w201 hb201 hb202
      have o_X_0 := X_w202.out.c (i := 0) rfl
      have o_X_1 := X_w202.out.c (i := 1) rfl
      have o_X_2 := X_w202.out.c (i := 2) rfl
      go_wp2_with fail
      clear o_X_0 o_X_1 o_X_2
      go_at_call 10
      (with_reducible refine (o_parts_ok R_w202.out hsm.out ho.out hr9.out).mono ?_)
      rintro e w203 ⟨rfl, hb203⟩
      have X_w203 := Lib.hid (X_w202.out.below hb203)
      have R_w203 := Lib.hid (R_w202.out.below hb203)
      have H_w203 := Lib.hid (H_w202.out.below hb203)
      have P_w203 := Lib.hid (P_w202.out.below hb203)
      have N_w203 := Lib.hid (N_w202.out.below hb203)
      have z0_w203 : w.heap.size < w203.heap.size := Nat.lt_of_lt_of_le z0_w202 hb203.size
      have B_w203 := bt B_w202 hb203
      clear X_w202 R_w202 H_w202 P_w202 N_w202 z0_w202 B_w202 hb203
      have o_X_0 := X_w203.out.c (i := 0) rfl
      have o_X_1 := X_w203.out.c (i := 1) rfl
      have o_X_2 := X_w203.out.c (i := 2) rfl
      go_wp2_with fail
      clear o_X_0 o_X_1 o_X_2
      go_at_call 11
      (with_reducible refine (o_loops_ok R_w203.out hsm.out ho.out hq9.out).mono ?_)
      rintro e w204 ⟨rfl, hb204⟩
      have X_w204 := Lib.hid (X_w203.out.below hb204)
      have R_w204 := Lib.hid (R_w203.out.below hb204)
      have H_w204 := Lib.hid (H_w203.out.below hb204)
      have P_w204 := Lib.hid (P_w203.out.below hb204)
      have N_w204 := Lib.hid (N_w203.out.below hb204)
      have z0_w204 : w.heap.size < w204.heap.size := Nat.lt_of_lt_of_le z0_w203 hb204.size
      have B_w204 := bt B_w203 hb204
      clear X_w203 R_w203 H_w203 P_w203 N_w203 z0_w203 B_w203 hb204
      go_upto_region 6 with fail
      have K_X_0 := cell_regrown (X_w204.out.c (i := 0) rfl)
      have K_X_1 := cell_regrown (X_w204.out.c (i := 1) rfl)
      have K_X_2 := cell_regrown (X_w204.out.c (i := 2) rfl)
      have cC0 := fun (d : Nat) (os : Array Obj) => Calls.regrown_of (o_right (R_w204.out.below (below_regrown w204 d os)) hsm.out ho.out)
      have cC1 := fun (d : Nat) (os : Array Obj) => Calls.regrown_of (r_right (R_w204.out.below (below_regrown w204 d os)) hsm.out ho.out)
      have cC2 := fun (d : Nat) (os : Array Obj) => Calls.regrown_of (alive_is (Go.Sort.grow (redrawn w204 d) os))
      refine wp_region_quiet_below (by kernel_rfl) (by kernel_rfl) ?_
      repeat (first | go_big_quiet_step (first | with_reducible exact cC0 _ _ | with_reducible exact cC1 _ _ | with_reducible exact cC2 _ _) | quiet_step (first | with_reducible exact cC0 _ _ | with_reducible exact cC1 _ _ | with_reducible exact cC2 _ _))
      refine wpQuiet_nil ?_
      intro _ hw'
      obtain ⟨⟨dq, osq⟩, hw''⟩ := hw'
      subst hw''
      have hqw205 := below_regrown w204 dq osq
      clear K_X_0 K_X_1 K_X_2 cC0 cC1 cC2
      generalize Go.Sort.grow (redrawn w204 dq) osq = w205 at *
      have X_w205 := Lib.hid (X_w204.out.below hqw205)
      have R_w205 := Lib.hid (R_w204.out.below hqw205)
      have H_w205 := Lib.hid (H_w204.out.below hqw205)
      have P_w205 := Lib.hid (P_w204.out.below hqw205)
      have N_w205 := Lib.hid (N_w204.out.below hqw205)
      have z0_w205 : w.heap.size < w205.heap.size := Nat.lt_of_lt_of_le z0_w204 hqw205.size
      have B_w205 := bt B_w204 hqw205
      clear X_w204 R_w204 H_w204 P_w204 N_w204 z0_w204 B_w204 hqw205
      have o_X_0 := X_w205.out.c (i := 0) rfl
      have o_X_1 := X_w205.out.c (i := 1) rfl
      have o_X_2 := X_w205.out.c (i := 2) rfl
      go_wp2_with fail
      clear o_X_0 o_X_1 o_X_2
      go_at_call 13
      (with_reducible refine (r_right R_w205.out hsm.out ho.out).mono ?_)
      rintro e w206 ⟨rfl, hb206⟩
      have X_w206 := Lib.hid (X_w205.out.below hb206)
      have R_w206 := Lib.hid (R_w205.out.below hb206)
      have H_w206 := Lib.hid (H_w205.out.below hb206)
      have P_w206 := Lib.hid (P_w205.out.below hb206)
      have N_w206 := Lib.hid (N_w205.out.below hb206)
      have z0_w206 : w.heap.size < w206.heap.size := Nat.lt_of_lt_of_le z0_w205 hb206.size
      have B_w206 := bt B_w205 hb206
      clear X_w205 R_w205 H_w205 P_w205 N_w205 z0_w205 B_w205 hb206
      have o_X_0 := X_w206.out.c (i := 0) rfl
      have o_X_1 := X_w206.out.c (i := 1) rfl
      have o_X_2 := X_w206.out.c (i := 2) rfl
      go_wp2_with fail
      clear o_X_0 o_X_1 o_X_2
      go_at_call 15
      (with_reducible refine (r_parts R_w206.out hsm.out hfit.out h8.out hr9.out).mono ?_)
      rintro e w207 ⟨rfl, hb207⟩
      have X_w207 := Lib.hid (X_w206.out.below hb207)
      have R_w207 := Lib.hid (R_w206.out.below hb207)
      have H_w207 := Lib.hid (H_w206.out.below hb207)
      have P_w207 := Lib.hid (P_w206.out.below hb207)
      have N_w207 := Lib.hid (N_w206.out.below hb207)
      have z0_w207 : w.heap.size < w207.heap.size := Nat.lt_of_lt_of_le z0_w206 hb207.size
      have B_w207 := bt B_w206 hb207
      clear X_w206 R_w206 H_w206 P_w206 N_w206 z0_w206 B_w206 hb207
      have o_X_0 := X_w207.out.c (i := 0) rfl
      have o_X_1 := X_w207.out.c (i := 1) rfl
      have o_X_2 := X_w207.out.c (i := 2) rfl
      go_wp2_with fail
      clear o_X_0 o_X_1 o_X_2
      go_at_call 16
      (with_reducible refine (r_loops R_w207.out hsm.out hfit.out h8.out hq9.out).mono ?_)
      rintro e w208 ⟨rfl, hb208⟩
      have X_w208 := Lib.hid (X_w207.out.below hb208)
      have R_w208 := Lib.hid (R_w207.out.below hb208)
      have H_w208 := Lib.hid (H_w207.out.below hb208)
      have P_w208 := Lib.hid (P_w207.out.below hb208)
      have N_w208 := Lib.hid (N_w207.out.below hb208)
      have z0_w208 : w.heap.size < w208.heap.size := Nat.lt_of_lt_of_le z0_w207 hb208.size
      have B_w208 := bt B_w207 hb208
      clear X_w207 R_w207 H_w207 P_w207 N_w207 z0_w207 B_w207 hb208
      have o_X_0 := X_w208.out.c (i := 0) rfl
      have o_X_1 := X_w208.out.c (i := 1) rfl
      have o_X_2 := X_w208.out.c (i := 2) rfl
      go_wp2_with fail
      clear o_X_0 o_X_1 o_X_2
      go_at_call 18
      (with_reducible refine (r_hosts R_w208.out hsm.out (s : Int)).mono ?_)
      rintro e w209 ⟨A209, c209, rfl, o209, hb209⟩
      have X_w209 := Lib.hid (X_w208.out.below hb209)
      have R_w209 := Lib.hid (R_w208.out.below hb209)
      have H_w209 := Lib.hid (H_w208.out.below hb209)
      have P_w209 := Lib.hid (P_w208.out.below hb209)
      have N_w209 := Lib.hid (N_w208.out.below hb209)
      have H2_w209 := Lib.hid (Row.own o209 (by decide))
      have z0_w209 : w.heap.size < w209.heap.size := Nat.lt_of_lt_of_le z0_w208 hb209.size
      have B_w209 := bt B_w208 hb209
      clear X_w208 R_w208 H_w208 P_w208 N_w208 z0_w208 B_w208 hb209
      have o_X_0 := X_w209.out.c (i := 0) rfl
      have o_X_1 := X_w209.out.c (i := 1) rfl
      have o_X_2 := X_w209.out.c (i := 2) rfl
      go_wp2_with fail
      clear o_X_0 o_X_1 o_X_2
      go_at_call 17
      (with_reducible refine (r_stations H_w209.out H2_w209.out rfl (hostsOf_len m (s : Int) hsm.out)).mono ?_)
      rintro e w210 ⟨rfl, hb210⟩
      have X_w210 := Lib.hid (X_w209.out.below hb210)
      have R_w210 := Lib.hid (R_w209.out.below hb210)
      have H_w210 := Lib.hid (H_w209.out.below hb210)
      have P_w210 := Lib.hid (P_w209.out.below hb210)
      have N_w210 := Lib.hid (N_w209.out.below hb210)
      have H2_w210 := Lib.hid (H2_w209.out.below hb210)
      have z0_w210 : w.heap.size < w210.heap.size := Nat.lt_of_lt_of_le z0_w209 hb210.size
      have B_w210 := bt B_w209 hb210
      clear X_w209 R_w209 H_w209 P_w209 N_w209 H2_w209 z0_w209 B_w209 hb210
      have o_X_0 := X_w210.out.c (i := 0) rfl
      have o_X_1 := X_w210.out.c (i := 1) rfl
      have o_X_2 := X_w210.out.c (i := 2) rfl
      go_wp2_with fail
      clear o_X_0 o_X_1 o_X_2
      go_at_call 20
      (with_reducible refine (r_ports R_w210.out hsm.out (s : Int)).mono ?_)
      rintro e w211 ⟨A211, c211, rfl, o211, hb211⟩
      have X_w211 := Lib.hid (X_w210.out.below hb211)
      have R_w211 := Lib.hid (R_w210.out.below hb211)
      have H_w211 := Lib.hid (H_w210.out.below hb211)
      have P_w211 := Lib.hid (P_w210.out.below hb211)
      have N_w211 := Lib.hid (N_w210.out.below hb211)
      have H2_w211 := Lib.hid (H2_w210.out.below hb211)
      have P2_w211 := Lib.hid (Row.own o211 (by decide))
      have z0_w211 : w.heap.size < w211.heap.size := Nat.lt_of_lt_of_le z0_w210 hb211.size
      have B_w211 := bt B_w210 hb211
      clear X_w210 R_w210 H_w210 P_w210 N_w210 H2_w210 z0_w210 B_w210 hb211
      have o_X_0 := X_w211.out.c (i := 0) rfl
      have o_X_1 := X_w211.out.c (i := 1) rfl
      have o_X_2 := X_w211.out.c (i := 2) rfl
      go_wp2_with fail
      clear o_X_0 o_X_1 o_X_2
      go_at_call 19
      (with_reducible refine (r_pairs P_w211.out P2_w211.out rfl (portsOf_len m (s : Int) hsm.out)).mono ?_)
      rintro e w212 ⟨rfl, hb212⟩
      have X_w212 := Lib.hid (X_w211.out.below hb212)
      have R_w212 := Lib.hid (R_w211.out.below hb212)
      have H_w212 := Lib.hid (H_w211.out.below hb212)
      have P_w212 := Lib.hid (P_w211.out.below hb212)
      have N_w212 := Lib.hid (N_w211.out.below hb212)
      have H2_w212 := Lib.hid (H2_w211.out.below hb212)
      have P2_w212 := Lib.hid (P2_w211.out.below hb212)
      have z0_w212 : w.heap.size < w212.heap.size := Nat.lt_of_lt_of_le z0_w211 hb212.size
      have B_w212 := bt B_w211 hb212
      clear X_w211 R_w211 H_w211 P_w211 N_w211 H2_w211 P2_w211 z0_w211 B_w211 hb212
      have o_X_0 := X_w212.out.c (i := 0) rfl
      have o_X_1 := X_w212.out.c (i := 1) rfl
      have o_X_2 := X_w212.out.c (i := 2) rfl
      go_wp2_with fail
      clear o_X_0 o_X_1 o_X_2
      go_at_call 22
      (with_reducible refine (r_part R_w212.out hsm.out hfit.out h8.out hsn.out).mono ?_)
      rintro e w213 ⟨A213, c213, rfl, o213, hb213⟩
      have X_w213 := Lib.hid (X_w212.out.below hb213)
      have R_w213 := Lib.hid (R_w212.out.below hb213)
      have H_w213 := Lib.hid (H_w212.out.below hb213)
      have P_w213 := Lib.hid (P_w212.out.below hb213)
      have N_w213 := Lib.hid (N_w212.out.below hb213)
      have H2_w213 := Lib.hid (H2_w212.out.below hb213)
      have P2_w213 := Lib.hid (P2_w212.out.below hb213)
      have N2_w213 := Lib.hid (Row.own o213 (by decide))
      have z0_w213 : w.heap.size < w213.heap.size := Nat.lt_of_lt_of_le z0_w212 hb213.size
      have B_w213 := bt B_w212 hb213
      clear X_w212 R_w212 H_w212 P_w212 N_w212 H2_w212 P2_w212 z0_w212 B_w212 hb213
      have o_X_0 := X_w213.out.c (i := 0) rfl
      have o_X_1 := X_w213.out.c (i := 1) rfl
      have o_X_2 := X_w213.out.c (i := 2) rfl
      go_wp2_with fail
      clear o_X_0 o_X_1 o_X_2
      go_at_call 21
      (with_reducible refine (r_same N_w213.out N2_w213.out (by have := hpl.out; have := h8.out; omega) (decide_eq_true rfl)).mono ?_)
      rintro e w214 ⟨rfl, hb214⟩
      have X_w214 := Lib.hid (X_w213.out.below hb214)
      have R_w214 := Lib.hid (R_w213.out.below hb214)
      have H_w214 := Lib.hid (H_w213.out.below hb214)
      have P_w214 := Lib.hid (P_w213.out.below hb214)
      have N_w214 := Lib.hid (N_w213.out.below hb214)
      have H2_w214 := Lib.hid (H2_w213.out.below hb214)
      have P2_w214 := Lib.hid (P2_w213.out.below hb214)
      have N2_w214 := Lib.hid (N2_w213.out.below hb214)
      have z0_w214 : w.heap.size < w214.heap.size := Nat.lt_of_lt_of_le z0_w213 hb214.size
      have B_w214 := bt B_w213 hb214
      clear X_w213 R_w213 H_w213 P_w213 N_w213 H2_w213 P2_w213 N2_w213 z0_w213 B_w213 hb214
      go_wp2_with fail
      go_ret
      exact ⟨rfl, bt B2.out B_w214⟩
    · have hw1 := Lib.hid (why_far ho hin)
      have hcs : seg < 0 ∨ (¬ seg < 0 ∧ m.segs ≤ seg) := by omega
      replace ho := Lib.hid ho
      replace hok := Lib.hid hok
      replace hin := Lib.hid hin
      replace hcs := Lib.hid hcs
      have o_X_0 := X2.out.c (i := 0) rfl
      have o_X_1 := X2.out.c (i := 1) rfl
      have o_X_2 := X2.out.c (i := 2) rfl
      go_wp2_with fail
      clear o_X_0 o_X_1 o_X_2
      go_at_call 8
      (with_reducible refine (o_on_no R2.out hsm.out seg hw1.out (by decide)).mono ?_)
      rintro e w301 ⟨rfl, hb301⟩
      have X_w301 := Lib.hid (X2.out.below hb301)
      have R_w301 := Lib.hid (R2.out.below hb301)
      have z0_w301 : w.heap.size < w301.heap.size := Nat.lt_of_lt_of_le z2 hb301.size
      clear X2 R2 z2
      have o_X_0 := X_w301.out.c (i := 0) rfl
      have o_X_1 := X_w301.out.c (i := 1) rfl
      have o_X_2 := X_w301.out.c (i := 2) rfl
      go_wp2_with fail
      clear o_X_0 o_X_1 o_X_2
      go_at_call 9
      (with_reducible refine (o_part_no R_w301.out hsm.out seg hw1.out (by decide)).mono ?_)
      rintro e w302 ⟨rfl, hb302⟩
      have X_w302 := Lib.hid (X_w301.out.below hb302)
      have R_w302 := Lib.hid (R_w301.out.below hb302)
      have z0_w302 : w.heap.size < w302.heap.size := Nat.lt_of_lt_of_le z0_w301 hb302.size
      have B_w302 := bt hb301 hb302
      clear X_w301 R_w301 z0_w301 hb301 hb302
      have o_X_0 := X_w302.out.c (i := 0) rfl
      have o_X_1 := X_w302.out.c (i := 1) rfl
      have o_X_2 := X_w302.out.c (i := 2) rfl
      go_wp2_with fail
      clear o_X_0 o_X_1 o_X_2
      go_at_call 10
      (with_reducible refine (o_parts_ok R_w302.out hsm.out ho.out hr9.out).mono ?_)
      rintro e w303 ⟨rfl, hb303⟩
      have X_w303 := Lib.hid (X_w302.out.below hb303)
      have R_w303 := Lib.hid (R_w302.out.below hb303)
      have z0_w303 : w.heap.size < w303.heap.size := Nat.lt_of_lt_of_le z0_w302 hb303.size
      have B_w303 := bt B_w302 hb303
      clear X_w302 R_w302 z0_w302 B_w302 hb303
      have o_X_0 := X_w303.out.c (i := 0) rfl
      have o_X_1 := X_w303.out.c (i := 1) rfl
      have o_X_2 := X_w303.out.c (i := 2) rfl
      go_wp2_with fail
      clear o_X_0 o_X_1 o_X_2
      go_at_call 11
      (with_reducible refine (o_loops_ok R_w303.out hsm.out ho.out hq9.out).mono ?_)
      rintro e w304 ⟨rfl, hb304⟩
      have X_w304 := Lib.hid (X_w303.out.below hb304)
      have R_w304 := Lib.hid (R_w303.out.below hb304)
      have z0_w304 : w.heap.size < w304.heap.size := Nat.lt_of_lt_of_le z0_w303 hb304.size
      have B_w304 := bt B_w303 hb304
      clear X_w303 R_w303 z0_w303 B_w303 hb304
      go_upto_region 6 with fail
      have K_X_0 := cell_regrown (X_w304.out.c (i := 0) rfl)
      have K_X_1 := cell_regrown (X_w304.out.c (i := 1) rfl)
      have K_X_2 := cell_regrown (X_w304.out.c (i := 2) rfl)
      have cC0 := fun (d : Nat) (os : Array Obj) => Calls.regrown_of (o_right (R_w304.out.below (below_regrown w304 d os)) hsm.out ho.out)
      have cC1 := fun (d : Nat) (os : Array Obj) => Calls.regrown_of (r_right (R_w304.out.below (below_regrown w304 d os)) hsm.out ho.out)
      have cC2 := fun (d : Nat) (os : Array Obj) => Calls.regrown_of (alive_is (Go.Sort.grow (redrawn w304 d) os))
      refine wp_region_quiet_below (by kernel_rfl) (by kernel_rfl) ?_
      repeat (first | go_big_quiet_step (first | with_reducible exact cC0 _ _ | with_reducible exact cC1 _ _ | with_reducible exact cC2 _ _) | quiet_step (first | with_reducible exact cC0 _ _ | with_reducible exact cC1 _ _ | with_reducible exact cC2 _ _))
      refine wpQuiet_nil ?_
      intro _ hw'
      obtain ⟨⟨dq, osq⟩, hw''⟩ := hw'
      subst hw''
      have hqw305 := below_regrown w304 dq osq
      clear K_X_0 K_X_1 K_X_2 cC0 cC1 cC2
      generalize Go.Sort.grow (redrawn w304 dq) osq = w305 at *
      have X_w305 := Lib.hid (X_w304.out.below hqw305)
      have R_w305 := Lib.hid (R_w304.out.below hqw305)
      have z0_w305 : w.heap.size < w305.heap.size := Nat.lt_of_lt_of_le z0_w304 hqw305.size
      have B_w305 := bt B_w304 hqw305
      clear X_w304 R_w304 z0_w304 B_w304 hqw305
      have o_X_0 := X_w305.out.c (i := 0) rfl
      have o_X_1 := X_w305.out.c (i := 1) rfl
      have o_X_2 := X_w305.out.c (i := 2) rfl
      go_wp2_with fail
      clear o_X_0 o_X_1 o_X_2
      go_at_call 13
      (with_reducible refine (r_right R_w305.out hsm.out ho.out).mono ?_)
      rintro e w306 ⟨rfl, hb306⟩
      have X_w306 := Lib.hid (X_w305.out.below hb306)
      have R_w306 := Lib.hid (R_w305.out.below hb306)
      have z0_w306 : w.heap.size < w306.heap.size := Nat.lt_of_lt_of_le z0_w305 hb306.size
      have B_w306 := bt B_w305 hb306
      clear X_w305 R_w305 z0_w305 B_w305 hb306
      have o_X_0 := X_w306.out.c (i := 0) rfl
      have o_X_1 := X_w306.out.c (i := 1) rfl
      have o_X_2 := X_w306.out.c (i := 2) rfl
      go_wp2_with fail
      clear o_X_0 o_X_1 o_X_2
      go_at_call 15
      (with_reducible refine (r_parts R_w306.out hsm.out hfit.out h8.out hr9.out).mono ?_)
      rintro e w307 ⟨rfl, hb307⟩
      have X_w307 := Lib.hid (X_w306.out.below hb307)
      have R_w307 := Lib.hid (R_w306.out.below hb307)
      have z0_w307 : w.heap.size < w307.heap.size := Nat.lt_of_lt_of_le z0_w306 hb307.size
      have B_w307 := bt B_w306 hb307
      clear X_w306 R_w306 z0_w306 B_w306 hb307
      have o_X_0 := X_w307.out.c (i := 0) rfl
      have o_X_1 := X_w307.out.c (i := 1) rfl
      have o_X_2 := X_w307.out.c (i := 2) rfl
      go_wp2_with fail
      clear o_X_0 o_X_1 o_X_2
      go_at_call 16
      (with_reducible refine (r_loops R_w307.out hsm.out hfit.out h8.out hq9.out).mono ?_)
      rintro e w308 ⟨rfl, hb308⟩
      have X_w308 := Lib.hid (X_w307.out.below hb308)
      have R_w308 := Lib.hid (R_w307.out.below hb308)
      have z0_w308 : w.heap.size < w308.heap.size := Nat.lt_of_lt_of_le z0_w307 hb308.size
      have B_w308 := bt B_w307 hb308
      clear X_w307 R_w307 z0_w307 B_w307 hb308
      rcases hcs.out with hc | ⟨hc, hc2⟩
      · have o_X_0 := X_w308.out.c (i := 0) rfl
        have o_X_1 := X_w308.out.c (i := 1) rfl
        have o_X_2 := X_w308.out.c (i := 2) rfl
        go_wp2_with fail
        clear o_X_0 o_X_1 o_X_2
        go_ret
        exact ⟨rfl, bt B2.out B_w308⟩
      · have o_X_0 := X_w308.out.c (i := 0) rfl
        have o_X_1 := X_w308.out.c (i := 1) rfl
        have o_X_2 := X_w308.out.c (i := 2) rfl
        go_wp2_with fail
        clear o_X_0 o_X_1 o_X_2
        go_ret
        exact ⟨rfl, bt B2.out B_w308⟩
theorem tells_go (v : Value) (seg : Int) {w : World} (hv : InLan w v) (_hseg : (Lit.int .i64 seg).wf = true) : Calls Try.prog 3 #[v, .int .i64 seg] w (True1 w) := by
  obtain ⟨l, A, c, B, d, rfl, hr⟩ := hv
  exact tells_law hr seg
end Go.Proofs.Ytoaabdejbipamaa.LanP
