/-
  FloodBoth.
-/
import Derived.Test.YtgcmklliafcffaaFloodG
import Derived.Test.YtgcmklliafcffaaFloodI
import Derived.BigRegion
namespace Go.Proofs.Ytgcmklliafcffaa.LanP
open Go.RowKit Go.Sort Go.Proofs.Ytgcmklliafcffaa.SliceP Go.Proofs.Ytgcmklliafcffaa.BoxP
open Go.Proofs.Ytgcmklliafcffaa.IntP (RowI SlI OwnI)
open Go.Proofs.Ytgcmklliafcffaa.BoolP (RowB SlB OwnB)
open Go.Proofs.Ytgcmklliafcffaa.MacP (arr_out Wrote wp_region_ends outM)
set_option linter.unusedVariables false
set_option maxRecDepth 100000
theorem path_nums {N n : Nat} (h : N < 8) (hn : n = N + 1) : wrap64 ((N : Int) + 1) = (N : Int) + 1 ∧ wrap64 ((n : Int) - 1) = (N : Int) ∧ ((n : Int) != (N : Int) + 1) = false ∧ (0 : Int) < (n : Int) ∧ (N : Int) < (n : Int) ∧ wrap64 (N : Int) = (N : Int) := by
  subst hn
  refine ⟨IntWalk.wrap64_in _ (by omega), ?_, by simp, by omega, by omega, IntWalk.wrap64_in _ (by omega)⟩
  rw [show (((N + 1 : Nat) : Int) - 1) = (N : Int) by omega]; exact IntWalk.wrap64_in _ (by omega)
set_option maxHeartbeats 16000000 in
theorem both_law {l : L} {A : Option Addr} {c : Nat} {B : Option Addr} {d : Nat} {w : World} {O : List (List Bool)} {C : Option Addr} {e : Nat} (hr : LanR w l A c B d) (hR : RowL bc w C O.length e O) (f0 t0 : Int) : Calls Try.prog 6 #[lv l A c B d, .slice C O.length e, .int .i64 f0, .int .i64 t0] w (True1 w) := by
  obtain ⟨w0, hw0, X0, R0, B0⟩ := new3 w hr
  have hF := Lib.hid (o_few17 hr B0)
  have hsm := Lib.hid (few_small l)
  have hFR := Lib.hid (fun (W : World) (hW : Below w0.heap.size w0 W) => o_rows17 hR (bt B0 hW))
  have hol := Lib.hid (show (fewO O).length ≤ 1000 from Nat.le_trans (fewO_len O) (by omega))
  have hor := Lib.hid (show ∀ r ∈ fewO O, r.length ≤ 1000 from fun r h => Nat.le_trans (fewO_row h) (by omega))
  replace X0 := Lib.hid X0
  replace B0 := Lib.hid B0
  clear hr R0 hR
  go_enter Try.func6, Try.ntmps6
  go_upto_region 1 with fail
  rw [← hw0]
  clear hw0
  have x0 := X0.out.c (i := 0) rfl
  have x1 := X0.out.c (i := 1) rfl
  have x2 := X0.out.c (i := 2) rfl
  have zz := X0.out.lt
  go_wp2_with fail
  go_at_call 21
  (with_reducible refine hF.out.mono ?_)
  rintro e1 w1 ⟨A1, c1, rfl, hb1, hK⟩
  obtain ⟨m, hm⟩ : ∃ m, l.few = m := ⟨_, rfl⟩
  rw [hm] at hK hsm ⊢
  replace hm := Lib.hid hm
  clear x0 x1 x2 zz
  have X1 := Lib.hid (X0.out.below hb1)
  have B1 := Lib.hid (bt B0.out hb1)
  have z01 := Lib.hid (show w.heap.size < w0.heap.size ∧ w0.heap.size ≤ w1.heap.size from ⟨X0.out.lt, hb1.size⟩)
  have hFR1 := Lib.hid (hFR.out w1 hb1)
  replace hK := Lib.hid hK
  clear hb1 X0 B0 hF hFR
  go_wp2_with fail
  go_at_call 22
  (with_reducible refine hFR1.out.mono ?_)
  rintro e1 w9 ⟨C2, e2, rfl, hb9, hK2⟩
  obtain ⟨o, hoo⟩ : ∃ o, fewO O = o := ⟨_, rfl⟩
  rw [hoo] at hK2 hol hor ⊢
  replace hoo := Lib.hid hoo
  have X9 := Lib.hid (X1.out.below hb9)
  have B9 := Lib.hid (bt B1.out hb9)
  have x0 := X9.out.c (i := 0) rfl
  have x1 := X9.out.c (i := 1) rfl
  have x2 := X9.out.c (i := 2) rfl
  have f0 := X9.out.f 0
  have f1 := X9.out.f 1
  have f2 := X9.out.f 2
  have zz := X9.out.lt
  obtain ⟨w2, hw2⟩ : ∃ W, W = ((w9.setCell ⟨w.heap.size, 0, none⟩ (.int .i64 m.segs)).setCell ⟨w.heap.size, 1, none⟩ (.slice A1 m.plans.length c1)).setCell ⟨w.heap.size, 2, none⟩ (.slice B m.hosts.length d) := ⟨_, rfl⟩
  have X2 := Lib.hid (show Bx w2 w.heap.size 25 #[.int .i64 m.segs, .slice A1 m.plans.length c1, .slice B m.hosts.length d] by rw [hw2]; exact Bx.three X9.out)
  have B2 := Lib.hid (show Below w.heap.size w w2 by rw [hw2]; exact below3 B9.out (Nat.le_refl _) _ _ _)
  have hg2 : w9.grownBy w2 (some w.heap.size) := by rw [hw2]; exact ((setCell_grown _ _ _ _).trans (setCell_grown _ _ _ _)).trans (setCell_grown _ _ _ _)
  have R2 := Lib.hid (hK.out w.heap.size w2 z01.out.1 ((below_grown hb9).trans hg2) B2.out)
  have O2 := Lib.hid (hK2 w.heap.size w2 (Nat.lt_of_lt_of_le z01.out.1 z01.out.2) hg2 B2.out)
  go_upto_region 2 with fail
  rw [← hw2]
  have z2 := X2.out.lt
  clear hw2 hb9 hK hK2 hFR1 hg2 x0 x1 x2 f0 f1 f2 zz X1 X9 B1 B9
  cases hk : (m.ok && rowsB m o)
  · have hw1 := Lib.hid (whyO_not hk [0])
    replace hk := Lib.hid hk
    have o_X_0 := X2.out.c (i := 0) rfl
    have o_X_1 := X2.out.c (i := 1) rfl
    have o_X_2 := X2.out.c (i := 2) rfl
    go_wp2_with fail
    clear o_X_0 o_X_1 o_X_2
    go_at_call 25
    (with_reducible refine (o_copies_no R2.out hsm.out O2.out hol.out hor.out 0 hw1.out (by decide)).mono ?_)
    rintro e w101 ⟨rfl, hb101⟩
    have X_w101 := Lib.hid (X2.out.below hb101)
    have R_w101 := Lib.hid (R2.out.below hb101)
    have O_w101 := Lib.hid (O2.out.below hb101)
    have z0_w101 : w.heap.size < w101.heap.size := Nat.lt_of_lt_of_le z2 hb101.size
    clear X2 R2 O2 z2
    have o_X_0 := X_w101.out.c (i := 0) rfl
    have o_X_1 := X_w101.out.c (i := 1) rfl
    have o_X_2 := X_w101.out.c (i := 2) rfl
    go_wp2_with fail
    clear o_X_0 o_X_1 o_X_2
    go_at_call 29
    (with_reducible refine (o_alive17 _).mono ?_)
    rintro e w102 ⟨rfl, hb102⟩
    have X_w102 := Lib.hid (X_w101.out.below hb102)
    have R_w102 := Lib.hid (R_w101.out.below hb102)
    have O_w102 := Lib.hid (O_w101.out.below hb102)
    have z0_w102 : w.heap.size < w102.heap.size := Nat.lt_of_lt_of_le z0_w101 hb102.size
    have B_w102 := bt hb101 hb102
    clear X_w101 R_w101 O_w101 z0_w101 hb101 hb102
    go_wp2_with fail
    go_ret
    exact ⟨rfl, bt B2.out B_w102⟩
  · have hK := Lib.hid hk
    have hok := (Bool.and_eq_true _ _ ▸ hk : m.ok = true ∧ rowsB m o = true)
    clear hk
    have hwy := Lib.hid (fun (ss : List Int) hs => whyO_in hK.out (ss := ss) hs)
    obtain ⟨p, hp⟩ : ∃ p, m.op o = p := ⟨_, rfl⟩
    have pok : p.ok = true := by rw [← hp]; exact op_ok o hok.1
    have hpf := Lib.hid (ok_fit pok)
    have hps : p.segs = m.segs := by rw [← hp]; rfl
    have hpn : p.n = m.n := by rw [← hp]; rfl
    have hpart := Lib.hid (fun s x (h : x ∈ p.part s) => op_part (l := m) o (s := s) (x := x) (by rw [hp]; exact h))
    have hsg := ok_segs hok.1
    have h1s : 1 ≤ m.segs := hsg.1
    have h8s : m.segs ≤ 8 := hsg.2.1
    have hnseg := Lib.hid hsg.2.2
    have hlt1 : ¬ (m.segs < 1) := by omega
    have hmok := Lib.hid hok.1
    replace hp := Lib.hid hp
    replace hps := Lib.hid hps
    replace hpn := Lib.hid hpn
    replace pok := Lib.hid pok
    clear hok hsg
    have o_X_0 := X2.out.c (i := 0) rfl
    have o_X_1 := X2.out.c (i := 1) rfl
    have o_X_2 := X2.out.c (i := 2) rfl
    go_wp2_with fail
    clear o_X_0 o_X_1 o_X_2
    go_at_call 25
    (with_reducible refine (o_copies_ok R2.out hsm.out O2.out hol.out hor.out 0 (hwy.out _ (by intro x hx; rw [List.mem_singleton.1 hx]; omega))).mono ?_)
    rintro e w201 ⟨rfl, hb201⟩
    have X_w201 := Lib.hid (X2.out.below hb201)
    have R_w201 := Lib.hid (R2.out.below hb201)
    have O_w201 := Lib.hid (O2.out.below hb201)
    have z0_w201 : w.heap.size < w201.heap.size := Nat.lt_of_lt_of_le z2 hb201.size
    clear X2 R2 O2 z2
    have ta := tmod_lt17 f0 m.segs (by omega)
    have tb := tmod_lt17 t0 m.segs (by omega)
    have o_X_0 := X_w201.out.c (i := 0) rfl
    have o_X_1 := X_w201.out.c (i := 1) rfl
    have o_X_2 := X_w201.out.c (i := 2) rfl
    go_upto_region 5 with fail
    clear o_X_0 o_X_1 o_X_2
    have K_X_0 := cell_regrown (X_w201.out.c (i := 0) rfl)
    have K_X_1 := cell_regrown (X_w201.out.c (i := 1) rfl)
    have K_X_2 := cell_regrown (X_w201.out.c (i := 2) rfl)
    refine wp_region_quiet_below (by kernel_rfl) (by kernel_rfl) ?_
    repeat (first | go_big_quiet_step (fail) | quiet_step (fail))
    refine wpQuiet_nil ?_
    intro _ hw'
    obtain ⟨⟨dq, osq⟩, hw''⟩ := hw'
    subst hw''
    have hqw202 := below_regrown w201 dq osq
    clear K_X_0 K_X_1 K_X_2
    generalize Go.Sort.grow (redrawn w201 dq) osq = w202 at *
    have X_w202 := Lib.hid (X_w201.out.below hqw202)
    have R_w202 := Lib.hid (R_w201.out.below hqw202)
    have O_w202 := Lib.hid (O_w201.out.below hqw202)
    have z0_w202 : w.heap.size < w202.heap.size := Nat.lt_of_lt_of_le z0_w201 hqw202.size
    have B_w202 := bt hb201 hqw202
    clear X_w201 R_w201 O_w201 z0_w201 hb201 hqw202
    have ma : 0 ≤ (f0.tmod m.segs + m.segs) % m.segs ∧ (f0.tmod m.segs + m.segs) % m.segs < m.segs := ⟨Int.emod_nonneg _ (by omega), Int.emod_lt_of_pos _ (by omega)⟩
    have mb : 0 ≤ (t0.tmod m.segs + m.segs) % m.segs ∧ (t0.tmod m.segs + m.segs) % m.segs < m.segs := ⟨Int.emod_nonneg _ (by omega), Int.emod_lt_of_pos _ (by omega)⟩
    generalize (f0.tmod m.segs + m.segs) % m.segs = ai at *
    generalize (t0.tmod m.segs + m.segs) % m.segs = bi at *
    obtain ⟨a, ha9⟩ : ∃ a : Nat, ai = (a : Int) := ⟨ai.toNat, by omega⟩
    obtain ⟨b, hb9⟩ : ∃ b : Nat, bi = (b : Int) := ⟨bi.toNat, by omega⟩
    subst ha9; subst hb9
    have han := Lib.hid (show a < m.n by have := hnseg.out; omega)
    have hwa := Lib.hid (hwy.out [(a : Int)] (by intro x hx; rw [List.mem_singleton.1 hx]; exact ma))
    have hwb := Lib.hid (hwy.out [(b : Int)] (by intro x hx; rw [List.mem_singleton.1 hx]; exact mb))
    have hwab := Lib.hid (hwy.out [(a : Int), (b : Int)] (by intro x hx; rcases List.mem_cons.1 hx with h | h; rw [h]; exact ma; rw [List.mem_singleton.1 h]; exact mb))
    clear ta tb hwy
    have pa : 0 ≤ (a : Int) ∧ (a : Int) < p.segs := by rw [hps.out]; exact ma
    have pb : 0 ≤ (b : Int) ∧ (b : Int) < p.segs := by rw [hps.out]; exact mb
    obtain ⟨PA, hPA⟩ : ∃ P, p.part (a : Int) = P := ⟨_, rfl⟩
    obtain ⟨PB, hPB⟩ : ∃ P, p.part (b : Int) = P := ⟨_, rfl⟩
    obtain ⟨RS, hRS⟩ : ∃ P, stpR p (a : Int) = P := ⟨_, rfl⟩
    obtain ⟨RT, hRT⟩ : ∃ P, stpR p (b : Int) = P := ⟨_, rfl⟩
    obtain ⟨PL, hPL⟩ : ∃ P, pathS p (a : Int) (b : Int) = P := ⟨_, rfl⟩
    obtain ⟨er, hER⟩ : ∃ P, pathE p (a : Int) (b : Int) = P := ⟨_, rfl⟩
    obtain ⟨PT, hPT⟩ : ∃ P, m.part (a : Int) = P := ⟨_, rfl⟩
    obtain ⟨D, hD⟩ : ∃ d, p.dst (a : Int) (b : Int) = d := ⟨_, rfl⟩
    have s1 := stp_at hpf.out (f := (a : Int)) pa.2
    rw [dst_self hpf.out pa.1 pa.2, hRS] at s1
    have s2 := stp_at hpf.out (f := (a : Int)) pb.2
    rw [hD, hRS] at s2
    have s3 := stp_at hpf.out (f := (b : Int)) pa.2
    rw [← dst_symm hpf.out pa.1 pa.2 pb.1 pb.2, hD, hRT] at s3
    have hnn : (p.n : Int) = m.segs := by rw [hpn.out]; exact hnseg.out
    have l1 := stp_len p (a : Int)
    rw [hRS] at l1
    have l2 := stp_len p (b : Int)
    rw [hRT] at l2
    have e1 : ((RS.length : Int) != m.segs) = false := by rw [l1, hnn]; simp
    have e2 : ((RT.length : Int) != m.segs) = false := by rw [l2, hnn]; simp
    have aS : (a : Int) < (RS.length : Int) := by rw [l1, hnn]; exact ma.2
    have bS : (b : Int) < (RS.length : Int) := by rw [l1, hnn]; exact mb.2
    have aT : (a : Int) < (RT.length : Int) := by rw [l2, hnn]; exact ma.2
    have hDD : (D != D) = false := by simp
    have hpl1 := Lib.hid (part_len p (a : Int))
    have hpl2 := Lib.hid (part_len m (a : Int))
    have hpl3 := Lib.hid (part_len p (b : Int))
    rw [hPA] at hpl1
    rw [hPT] at hpl2
    rw [hPB] at hpl3
    have hin1 := Lib.hid (show ∀ x ∈ PA, (0 ≤ x ∧ x < m.segs) ∧ x ∈ PT ∧ 0 ≤ p.dst (a : Int) x from fun x hx => by
      rw [← hPA] at hx
      have h := (part_dst hpf.out pa.1 pa.2).1 hx
      rw [hps.out] at h
      exact ⟨⟨h.1, h.2.1⟩, by rw [← hPT]; exact hpart.out _ x hx, h.2.2⟩)
    have hst := Lib.hid (show ∀ x : Nat, (x : Int) < m.segs → RS[x]? = some (p.dst (a : Int) x) ∧ (x : Int) < (RS.length : Int) from fun x hx => ⟨by rw [← hRS]; exact stp_at hpf.out (by rw [hps.out]; exact hx), by rw [l1, hnn]; exact hx⟩)
    have hDg := (dst_is hpf.out pa.1 pa.2).ge (b : Int) pb.1 pb.2
    rw [hD] at hDg
    have hbA : decide ((b : Int) ∈ PA) = decide (0 ≤ D) := by
      by_cases h : 0 ≤ D
      · rw [decide_eq_true h, decide_eq_true]; rw [← hPA]; exact (part_dst hpf.out pa.1 pa.2).2 ⟨pb.1, pb.2, by rw [hD]; exact h⟩
      · rw [decide_eq_false h, decide_eq_false]; rw [← hPA]; intro q; have := ((part_dst hpf.out pa.1 pa.2).1 q).2.2; rw [hD] at this; exact h this
    have hAB : 0 ≤ D → PA = PB := fun h => by
      rw [← hPA, ← hPB]
      exact part_same ((dst_lab hpf.out pa.1 pa.2 (dst_is hpf.out pa.1 pa.2) pb.1 pb.2).1 (by rw [hD]; exact h)).symm
    have hpy := Lib.hid (show 0 ≤ D → er = 0 ∧ PL.length = D.toNat + 1 ∧ PL[0]? = some (a : Int) ∧ PL[D.toNat]? = some (b : Int) ∧ ∀ k : Nat, k ≤ D.toNat → ∃ x : Nat, PL[k]? = some (x : Int) ∧ (x : Int) < m.segs ∧ p.dst (a : Int) x = k from fun h => by
      obtain ⟨N, hN⟩ : ∃ N : Nat, D = N := ⟨D.toNat, by omega⟩
      rw [hN] at hD
      have e : PL = pathR p a b := by rw [← hPL]; unfold pathS; rw [hD, if_neg (by omega)]
      have e2 : er = 0 := by rw [← hER]; unfold pathE; rw [hD, if_neg (by omega)]
      rw [e, e2, hN, show ((N : Int)).toNat = N from rfl]
      exact ⟨rfl, pathR_len hD, path_first hpf.out pa.1 pa.2 pb.1 pb.2 hD, path_last hD, fun k hk => by have := path_step hpf.out pa.1 pa.2 pb.1 pb.2 hD hk; rwa [hps.out] at this⟩)
    have hpn9 := Lib.hid (show D < 0 → er = 4 ∧ PL = [] from fun h => by
      constructor
      · rw [← hER]; unfold pathE; rw [hD, if_pos h]
      · rw [← hPL]; unfold pathS; rw [hD, if_pos h])
    have hD8 := dst_lt hpf.out (dst_is hpf.out pa.1 pa.2) pb.1 pb.2
    rw [hD, hps.out] at hD8
    replace hPA := Lib.hid hPA
    replace hPB := Lib.hid hPB
    replace hRS := Lib.hid hRS
    replace hRT := Lib.hid hRT
    replace hPL := Lib.hid hPL
    replace hER := Lib.hid hER
    replace hPT := Lib.hid hPT
    replace hD := Lib.hid hD
    replace s1 := Lib.hid s1
    replace s2 := Lib.hid s2
    replace s3 := Lib.hid s3
    replace l1 := Lib.hid l1
    replace l2 := Lib.hid l2
    replace hnn := Lib.hid hnn
    replace hbA := Lib.hid hbA
    replace hAB := Lib.hid hAB
    replace ma := Lib.hid ma
    replace mb := Lib.hid mb
    replace pa := Lib.hid pa
    replace pb := Lib.hid pb
    have o_X_0 := X_w202.out.c (i := 0) rfl
    have o_X_1 := X_w202.out.c (i := 1) rfl
    have o_X_2 := X_w202.out.c (i := 2) rfl
    go_wp2_with fail
    clear o_X_0 o_X_1 o_X_2
    go_at_call 23
    (with_reducible refine (o_reach_ok R_w202.out hsm.out O_w202.out hol.out hor.out (a : Int) hwa.out).mono ?_)
    rw [hp.out, hPA.out]
    rintro e w203 ⟨AA, cA, rfl, rA, hb203⟩
    have X_w203 := Lib.hid (X_w202.out.below hb203)
    have R_w203 := Lib.hid (R_w202.out.below hb203)
    have O_w203 := Lib.hid (O_w202.out.below hb203)
    have PA_w203 := Lib.hid (rA)
    have z0_w203 : w.heap.size < w203.heap.size := Nat.lt_of_lt_of_le z0_w202 hb203.size
    have B_w203 := bt B_w202 hb203
    clear X_w202 R_w202 O_w202 z0_w202 B_w202 hb203
    have o_X_0 := X_w203.out.c (i := 0) rfl
    have o_X_1 := X_w203.out.c (i := 1) rfl
    have o_X_2 := X_w203.out.c (i := 2) rfl
    go_wp2_with fail
    clear o_X_0 o_X_1 o_X_2
    go_at_call 23
    (with_reducible refine (o_reach_ok R_w203.out hsm.out O_w203.out hol.out hor.out (b : Int) hwb.out).mono ?_)
    rw [hp.out, hPB.out]
    rintro e w204 ⟨AB, cB, rfl, rB, hb204⟩
    have X_w204 := Lib.hid (X_w203.out.below hb204)
    have R_w204 := Lib.hid (R_w203.out.below hb204)
    have O_w204 := Lib.hid (O_w203.out.below hb204)
    have PA_w204 := Lib.hid (PA_w203.out.below hb204)
    have PB_w204 := Lib.hid (rB)
    have z0_w204 : w.heap.size < w204.heap.size := Nat.lt_of_lt_of_le z0_w203 hb204.size
    have B_w204 := bt B_w203 hb204
    clear X_w203 R_w203 O_w203 PA_w203 z0_w203 B_w203 hb204
    have o_X_0 := X_w204.out.c (i := 0) rfl
    have o_X_1 := X_w204.out.c (i := 1) rfl
    have o_X_2 := X_w204.out.c (i := 2) rfl
    go_wp2_with fail
    clear o_X_0 o_X_1 o_X_2
    go_at_call 24
    (with_reducible refine (o_steps_ok R_w204.out hsm.out O_w204.out hol.out hor.out (a : Int) hwa.out).mono ?_)
    rw [hp.out, hRS.out]
    rintro e w205 ⟨AS, cS, rfl, rS, hb205⟩
    have X_w205 := Lib.hid (X_w204.out.below hb205)
    have R_w205 := Lib.hid (R_w204.out.below hb205)
    have O_w205 := Lib.hid (O_w204.out.below hb205)
    have PA_w205 := Lib.hid (PA_w204.out.below hb205)
    have PB_w205 := Lib.hid (PB_w204.out.below hb205)
    have S_w205 := Lib.hid (rS)
    have z0_w205 : w.heap.size < w205.heap.size := Nat.lt_of_lt_of_le z0_w204 hb205.size
    have B_w205 := bt B_w204 hb205
    clear X_w204 R_w204 O_w204 PA_w204 PB_w204 z0_w204 B_w204 hb205
    have o_X_0 := X_w205.out.c (i := 0) rfl
    have o_X_1 := X_w205.out.c (i := 1) rfl
    have o_X_2 := X_w205.out.c (i := 2) rfl
    go_wp2_with fail
    clear o_X_0 o_X_1 o_X_2
    go_at_call 24
    (with_reducible refine (o_steps_ok R_w205.out hsm.out O_w205.out hol.out hor.out (b : Int) hwb.out).mono ?_)
    rw [hp.out, hRT.out]
    rintro e w206 ⟨AT, cT, rfl, rT, hb206⟩
    have X_w206 := Lib.hid (X_w205.out.below hb206)
    have R_w206 := Lib.hid (R_w205.out.below hb206)
    have O_w206 := Lib.hid (O_w205.out.below hb206)
    have PA_w206 := Lib.hid (PA_w205.out.below hb206)
    have PB_w206 := Lib.hid (PB_w205.out.below hb206)
    have S_w206 := Lib.hid (S_w205.out.below hb206)
    have T_w206 := Lib.hid (rT)
    have z0_w206 : w.heap.size < w206.heap.size := Nat.lt_of_lt_of_le z0_w205 hb206.size
    have B_w206 := bt B_w205 hb206
    clear X_w205 R_w205 O_w205 PA_w205 PB_w205 S_w205 z0_w205 B_w205 hb206
    have o_X_0 := X_w206.out.c (i := 0) rfl
    have o_X_1 := X_w206.out.c (i := 1) rfl
    have o_X_2 := X_w206.out.c (i := 2) rfl
    go_wp2_with fail
    clear o_X_0 o_X_1 o_X_2
    go_at_call 26
    (with_reducible refine (o_path_any R_w206.out hsm.out O_w206.out hol.out hor.out (a : Int) (b : Int) hwab.out).mono ?_)
    rw [hp.out, hPL.out, hER.out]
    rintro e w207 ⟨AP, cP, rfl, rP, hb207⟩
    have X_w207 := Lib.hid (X_w206.out.below hb207)
    have R_w207 := Lib.hid (R_w206.out.below hb207)
    have O_w207 := Lib.hid (O_w206.out.below hb207)
    have PA_w207 := Lib.hid (PA_w206.out.below hb207)
    have PB_w207 := Lib.hid (PB_w206.out.below hb207)
    have S_w207 := Lib.hid (S_w206.out.below hb207)
    have T_w207 := Lib.hid (T_w206.out.below hb207)
    have P_w207 := Lib.hid (rP)
    have z0_w207 : w.heap.size < w207.heap.size := Nat.lt_of_lt_of_le z0_w206 hb207.size
    have B_w207 := bt B_w206 hb207
    clear X_w206 R_w206 O_w206 PA_w206 PB_w206 S_w206 T_w206 z0_w206 B_w206 hb207
    have o_X_0 := X_w207.out.c (i := 0) rfl
    have o_X_1 := X_w207.out.c (i := 1) rfl
    have o_X_2 := X_w207.out.c (i := 2) rfl
    go_wp2_with fail
    clear o_X_0 o_X_1 o_X_2
    go_at_call 35
    (with_reducible refine (o_part_ok R_w207.out hsm.out hmok.out han.out).mono ?_)
    rw [hPT.out]
    rintro e w208 ⟨AQ, cQ, rfl, rQ, hb208⟩
    have X_w208 := Lib.hid (X_w207.out.below hb208)
    have R_w208 := Lib.hid (R_w207.out.below hb208)
    have O_w208 := Lib.hid (O_w207.out.below hb208)
    have PA_w208 := Lib.hid (PA_w207.out.below hb208)
    have PB_w208 := Lib.hid (PB_w207.out.below hb208)
    have S_w208 := Lib.hid (S_w207.out.below hb208)
    have T_w208 := Lib.hid (T_w207.out.below hb208)
    have P_w208 := Lib.hid (P_w207.out.below hb208)
    have Q_w208 := Lib.hid (rQ)
    have z0_w208 : w.heap.size < w208.heap.size := Nat.lt_of_lt_of_le z0_w207 hb208.size
    have B_w208 := bt B_w207 hb208
    clear X_w207 R_w207 O_w207 PA_w207 PB_w207 S_w207 T_w207 P_w207 z0_w207 B_w207 hb208
    obtain ⟨gS, oS, hAS, hgS, k1⟩ := Row.iat S_w208.out s1.out
    obtain ⟨gS2, oS2, hAS2, hgS2, k2⟩ := Row.iat S_w208.out s2.out
    obtain ⟨gT, oT, hAT, hgT, k3⟩ := Row.iat T_w208.out s3.out
    have hgg := Option.some.inj (hAS.symm.trans hAS2)
    obtain rfl : gS = gS2 := by injection hgg
    obtain rfl : oS = oS2 := by injection hgg
    have mS := S_w208.out.mx
    have mT := T_w208.out.mx
    have cpS := S_w208.out.cap
    have cpT := T_w208.out.cap
    subst hAS; subst hAT
    clear hAS2 hgg
    have o_X_0 := X_w208.out.c (i := 0) rfl
    have o_X_1 := X_w208.out.c (i := 1) rfl
    have o_X_2 := X_w208.out.c (i := 2) rfl
    go_upto_region 12 with fail
    clear o_X_0 o_X_1 o_X_2
    have K_X_0 := cell_regrown (X_w208.out.c (i := 0) rfl)
    have K_X_1 := cell_regrown (X_w208.out.c (i := 1) rfl)
    have K_X_2 := cell_regrown (X_w208.out.c (i := 2) rfl)
    have KC_0 := cell_regrown k1
    have KC_1 := cell_regrown k2
    have KC_2 := cell_regrown k3
    have cC0 := fun (d : Nat) (os : Array Obj) => Calls.regrown_of (o_alive17 (Go.Sort.grow (redrawn w208 d) os))
    refine wp_region_quiet_below (by kernel_rfl) (by kernel_rfl) ?_
    repeat (first | go_big_quiet_step (with_reducible exact cC0 _ _) | quiet_step (with_reducible exact cC0 _ _))
    refine wpQuiet_nil ?_
    intro _ hw'
    obtain ⟨⟨dq, osq⟩, hw''⟩ := hw'
    subst hw''
    have hqw209 := below_regrown w208 dq osq
    clear K_X_0 K_X_1 K_X_2 KC_0 KC_1 KC_2 cC0
    generalize Go.Sort.grow (redrawn w208 dq) osq = w209 at *
    have X_w209 := Lib.hid (X_w208.out.below hqw209)
    have R_w209 := Lib.hid (R_w208.out.below hqw209)
    have O_w209 := Lib.hid (O_w208.out.below hqw209)
    have PA_w209 := Lib.hid (PA_w208.out.below hqw209)
    have PB_w209 := Lib.hid (PB_w208.out.below hqw209)
    have S_w209 := Lib.hid (S_w208.out.below hqw209)
    have T_w209 := Lib.hid (T_w208.out.below hqw209)
    have P_w209 := Lib.hid (P_w208.out.below hqw209)
    have Q_w209 := Lib.hid (Q_w208.out.below hqw209)
    have z0_w209 : w.heap.size < w209.heap.size := Nat.lt_of_lt_of_le z0_w208 hqw209.size
    have B_w209 := bt B_w208 hqw209
    clear X_w208 R_w208 O_w208 PA_w208 PB_w208 S_w208 T_w208 P_w208 Q_w208 z0_w208 B_w208 hqw209
    clear k1 k2 k3 hgS hgS2 hgT
    go_wp2_with fail
    go_loopw [24, 167] (fun v i wr => ∃ k : Nat, k ≤ PA.length ∧ i = .int .i64 k ∧ Below w209.heap.size w209 wr) (fun _ i _ => PA.length - (intOf i).toNat)
    case atStart => exact ⟨0, by omega, rfl, Below.refl _ _⟩
    case round =>
      obtain ⟨k, hk, rfl, hb⟩ := hrel
      obtain ⟨wo, hwo⟩ : ∃ W, W = wr := ⟨_, rfl⟩
      subst hwo
      by_cases hkn : k < PA.length
      · have hkl : (k : Int) < (PA.length : Int) := by omega
        obtain ⟨x, hx⟩ : ∃ x, PA[k]? = some x := ⟨_, List.getElem?_eq_getElem hkn⟩
        obtain ⟨hx1, hx2, hx3⟩ := hin1.out x (List.mem_of_getElem? hx)
        obtain ⟨x, rfl⟩ := nat_of hx1.1 hx1.2
        obtain ⟨hx4, hx5⟩ := hst.out x hx1.2
        obtain ⟨dx, hdx⟩ : ∃ d, p.dst (a : Int) x = d := ⟨_, rfl⟩
        rw [hdx] at hx3 hx4
        have hd0 : ¬ (dx < 0) := by omega
        have hmem := Lib.hid (decide_eq_true hx2)
        have hinb := Lib.hid (show (decide (0 ≤ (x : Int)) && decide ((x : Int) < m.segs)) = true by rw [decide_eq_true hx1.1, decide_eq_true hx1.2]; rfl)
        have hPTl := Lib.hid (show PT.length ≤ 1000 by have := hpl2.out; have := hnseg.out; omega)
        replace hdx := Lib.hid hdx
        clear hx2 hx1
        have X_wo := Lib.hid (X_w209.out.below hb)
        have R_wo := Lib.hid (R_w209.out.below hb)
        have O_wo := Lib.hid (O_w209.out.below hb)
        have PA_wo := Lib.hid (PA_w209.out.below hb)
        have PB_wo := Lib.hid (PB_w209.out.below hb)
        have S_wo := Lib.hid (S_w209.out.below hb)
        have T_wo := Lib.hid (T_w209.out.below hb)
        have P_wo := Lib.hid (P_w209.out.below hb)
        have Q_wo := Lib.hid (Q_w209.out.below hb)
        have z0_wo : w.heap.size < wo.heap.size := Nat.lt_of_lt_of_le z0_w209 hb.size
        obtain ⟨gP, oP, hAP, hgP, j0⟩ := Row.iat PA_wo.out hx
        have mA := PA_wo.out.mx
        have cpA := PA_wo.out.cap
        subst hAP
        replace hx := Lib.hid hx
        obtain ⟨gS3, oS3, hAS3, hgS3, j1⟩ := Row.iat S_wo.out hx4
        have hgg := Option.some.inj hAS3
        obtain rfl : gS = gS3 := by injection hgg
        obtain rfl : oS = oS3 := by injection hgg
        replace hx4 := Lib.hid hx4
        clear hAS3 hgg
        go_wp2_with fail
        go_at_call 36
        (with_reducible refine (o_has_b Q_wo.out (x : Int) hmem.out hPTl.out).mono ?_)
        rintro e w401 ⟨rfl, hb401⟩
        have X_w401 := Lib.hid (X_wo.out.below hb401)
        have R_w401 := Lib.hid (R_wo.out.below hb401)
        have O_w401 := Lib.hid (O_wo.out.below hb401)
        have PA_w401 := Lib.hid (PA_wo.out.below hb401)
        have PB_w401 := Lib.hid (PB_wo.out.below hb401)
        have S_w401 := Lib.hid (S_wo.out.below hb401)
        have T_w401 := Lib.hid (T_wo.out.below hb401)
        have P_w401 := Lib.hid (P_wo.out.below hb401)
        have Q_w401 := Lib.hid (Q_wo.out.below hb401)
        have z0_w401 : w.heap.size < w401.heap.size := Nat.lt_of_lt_of_le z0_wo hb401.size
        have B_w401 := bt hb hb401
        clear X_wo R_wo O_wo PA_wo PB_wo S_wo T_wo P_wo Q_wo z0_wo hb hb401
        clear j0 hgP
        have o_X_0 := X_w401.out.c (i := 0) rfl
        have o_X_1 := X_w401.out.c (i := 1) rfl
        have o_X_2 := X_w401.out.c (i := 2) rfl
        go_wp2_with fail
        clear o_X_0 o_X_1 o_X_2
        go_at_call 28
        (with_reducible refine (o_in_b (x : Int) m.segs hinb.out _).mono ?_)
        rintro e w402 ⟨rfl, hb402⟩
        have X_w402 := Lib.hid (X_w401.out.below hb402)
        have R_w402 := Lib.hid (R_w401.out.below hb402)
        have O_w402 := Lib.hid (O_w401.out.below hb402)
        have PA_w402 := Lib.hid (PA_w401.out.below hb402)
        have PB_w402 := Lib.hid (PB_w401.out.below hb402)
        have S_w402 := Lib.hid (S_w401.out.below hb402)
        have T_w402 := Lib.hid (T_w401.out.below hb402)
        have P_w402 := Lib.hid (P_w401.out.below hb402)
        have Q_w402 := Lib.hid (Q_w401.out.below hb402)
        have z0_w402 : w.heap.size < w402.heap.size := Nat.lt_of_lt_of_le z0_w401 hb402.size
        have B_w402 := bt B_w401 hb402
        clear X_w401 R_w401 O_w401 PA_w401 PB_w401 S_w401 T_w401 P_w401 Q_w401 z0_w401 B_w401 hb402
        obtain ⟨gS4, oS4, hAS4, hgS4, j2⟩ := Row.iat S_w402.out hx4.out
        have hgg := Option.some.inj hAS4
        obtain rfl : gS = gS4 := by injection hgg
        obtain rfl : oS = oS4 := by injection hgg
        clear hAS4 hgg j1 hgS3
        go_wp2_with fail
        go_roundw
        case rel => exact ⟨k + 1, by omega, by go_num, B_w402⟩
        case measure => simp [intOf]; omega
      · obtain rfl : k = PA.length := by omega
        have X_wo := Lib.hid (X_w209.out.below hb)
        have R_wo := Lib.hid (R_w209.out.below hb)
        have O_wo := Lib.hid (O_w209.out.below hb)
        have PA_wo := Lib.hid (PA_w209.out.below hb)
        have PB_wo := Lib.hid (PB_w209.out.below hb)
        have S_wo := Lib.hid (S_w209.out.below hb)
        have T_wo := Lib.hid (T_w209.out.below hb)
        have P_wo := Lib.hid (P_w209.out.below hb)
        have Q_wo := Lib.hid (Q_w209.out.below hb)
        have z0_wo : w.heap.size < wo.heap.size := Nat.lt_of_lt_of_le z0_w209 hb.size
        have Bq := Lib.hid (bt B2.out (bt B_w209 hb))
        by_cases hDn : D < 0
        · obtain ⟨he4, hpl0⟩ := hpn9.out hDn
          subst he4; subst hpl0
          have hge : ¬ (0 ≤ D) := by omega
          have hda : decide ((b : Int) ∈ PA) = false := by rw [hbA.out, decide_eq_false hge]
          replace hda := Lib.hid hda
          have hPAl := Lib.hid (show PA.length ≤ 1000 by have := hpl1.out; have := hnn.out; omega)
          obtain ⟨g1, o1, hA1, hg1, j1⟩ := Row.iat S_wo.out s2.out
          have hgg := Option.some.inj hA1
          obtain rfl : gS = g1 := by injection hgg
          obtain rfl : oS = o1 := by injection hgg
          clear hA1 hgg hkn
          have hb9 : Below wo.heap.size wo wo := Below.refl _ _
          go_upto_region 20 with fail
          have KC_0 := cell_regrown j1
          have cC0 := fun (d : Nat) (os : Array Obj) => Calls.regrown_of (o_has_b (PA_wo.out.below (below_regrown wo d os)) (b : Int) hda.out hPAl.out)
          refine wp_region_quiet_below (by kernel_rfl) (by kernel_rfl) ?_
          repeat (first | go_big_quiet_step (with_reducible exact cC0 _ _) | quiet_step (with_reducible exact cC0 _ _))
          refine wpQuiet_nil ?_
          intro _ hw'
          obtain ⟨⟨dq, osq⟩, hw''⟩ := hw'
          subst hw''
          have hqw501 := below_regrown wo dq osq
          clear KC_0 cC0
          generalize Go.Sort.grow (redrawn wo dq) osq = w501 at *
          have X_w501 := Lib.hid (X_wo.out.below hqw501)
          have R_w501 := Lib.hid (R_wo.out.below hqw501)
          have O_w501 := Lib.hid (O_wo.out.below hqw501)
          have PA_w501 := Lib.hid (PA_wo.out.below hqw501)
          have PB_w501 := Lib.hid (PB_wo.out.below hqw501)
          have S_w501 := Lib.hid (S_wo.out.below hqw501)
          have T_w501 := Lib.hid (T_wo.out.below hqw501)
          have P_w501 := Lib.hid (P_wo.out.below hqw501)
          have Q_w501 := Lib.hid (Q_wo.out.below hqw501)
          have z0_w501 : w.heap.size < w501.heap.size := Nat.lt_of_lt_of_le z0_wo hqw501.size
          have B_w501 := bt hb9 hqw501
          clear X_wo R_wo O_wo PA_wo PB_wo S_wo T_wo P_wo Q_wo z0_wo hb9 hqw501
          clear j1 hg1
          obtain ⟨g1, o1, hA1, hg1, j1⟩ := Row.iat S_w501.out s2.out
          have hgg := Option.some.inj hA1
          obtain rfl : gS = g1 := by injection hgg
          obtain rfl : oS = o1 := by injection hgg
          clear hA1 hgg
          go_wp2_with fail
          go_ret
          exact ⟨rfl, bt Bq.out B_w501⟩
        · obtain ⟨N, hN⟩ : ∃ N : Nat, D = N := ⟨D.toNat, by omega⟩
          have hge : 0 ≤ D := by omega
          obtain ⟨he0, hpl, hp0, hpN, hpk⟩ := hpy.out hge
          rw [show D.toNat = N by omega] at hpl hpN hpk
          subst he0
          have hda : decide ((b : Int) ∈ PA) = true := by rw [hbA.out, decide_eq_true hge]
          replace hda := Lib.hid hda
          have hab := hAB.out hge
          subst hab
          have hPAl := Lib.hid (show PA.length ≤ 1000 by have := hpl1.out; have := hnn.out; omega)
          obtain ⟨g1, o1, hA1, hg1, j1⟩ := Row.iat S_wo.out s2.out
          have hgg := Option.some.inj hA1
          obtain rfl : gS = g1 := by injection hgg
          obtain rfl : oS = o1 := by injection hgg
          clear hA1 hgg hkn
          have hb9 : Below wo.heap.size wo wo := Below.refl _ _
          have hw9 := Lib.hid (path_nums (N := N) (n := PL.length) (by omega) hpl)
          have hwD := Lib.hid (show wrap64 (D + 1) = D + 1 by rw [hN]; exact hw9.out.1)
          have hwL := Lib.hid (show (PL.length : Int) = D + 1 by omega)
          replace hN := Lib.hid hN
          replace hpk := Lib.hid hpk
          replace hpl := Lib.hid hpl
          replace hpN := Lib.hid hpN
          replace hp0 := Lib.hid hp0
          go_upto_region 20 with fail
          have KC_0 := cell_regrown j1
          have cC0 := fun (d : Nat) (os : Array Obj) => Calls.regrown_of (o_has_b (PA_wo.out.below (below_regrown wo d os)) (b : Int) hda.out hPAl.out)
          have cC1 := fun (d : Nat) (os : Array Obj) => Calls.regrown_of (r_same (PA_wo.out.below (below_regrown wo d os)) (PB_wo.out.below (below_regrown wo d os)) hPAl.out (decide_eq_true rfl))
          refine wp_region_quiet_below (by kernel_rfl) (by kernel_rfl) ?_
          repeat (first | go_big_quiet_step (first | with_reducible exact cC0 _ _ | with_reducible exact cC1 _ _) | quiet_step (first | with_reducible exact cC0 _ _ | with_reducible exact cC1 _ _))
          refine wpQuiet_nil ?_
          intro _ hw'
          obtain ⟨⟨dq, osq⟩, hw''⟩ := hw'
          subst hw''
          have hqw501 := below_regrown wo dq osq
          clear KC_0 cC0 cC1
          generalize Go.Sort.grow (redrawn wo dq) osq = w501 at *
          have X_w501 := Lib.hid (X_wo.out.below hqw501)
          have R_w501 := Lib.hid (R_wo.out.below hqw501)
          have O_w501 := Lib.hid (O_wo.out.below hqw501)
          have PA_w501 := Lib.hid (PA_wo.out.below hqw501)
          have PB_w501 := Lib.hid (PB_wo.out.below hqw501)
          have S_w501 := Lib.hid (S_wo.out.below hqw501)
          have T_w501 := Lib.hid (T_wo.out.below hqw501)
          have P_w501 := Lib.hid (P_wo.out.below hqw501)
          have Q_w501 := Lib.hid (Q_wo.out.below hqw501)
          have z0_w501 : w.heap.size < w501.heap.size := Nat.lt_of_lt_of_le z0_wo hqw501.size
          have B_w501 := bt hb9 hqw501
          clear X_wo R_wo O_wo PA_wo PB_wo S_wo T_wo P_wo Q_wo z0_wo hb9 hqw501
          clear j1 hg1
          obtain ⟨g1, o1, hA1, hg1, j1⟩ := Row.iat S_w501.out s2.out
          have hgg := Option.some.inj hA1
          obtain rfl : gS = g1 := by injection hgg
          obtain rfl : oS = o1 := by injection hgg
          clear hA1 hgg
          obtain ⟨gP, oP, hAP, hgP, i1⟩ := Row.iat P_w501.out hp0.out
          obtain ⟨gP2, oP2, hAP2, hgP2, i2⟩ := Row.iat P_w501.out hpN.out
          have hgg := Option.some.inj (hAP.symm.trans hAP2)
          obtain rfl : gP = gP2 := by injection hgg
          obtain rfl : oP = oP2 := by injection hgg
          subst hAP
          clear hAP2 hgg
          have mP := P_w501.out.mx
          have cpP := P_w501.out.cap
          rw [Nat.add_zero] at i1
          have q5 : (0 : Int) < (PL.length : Int) := hw9.out.2.2.2.1
          rw [show N = PL.length - 1 by rw [hpl.out]; rfl] at i2
          have q4 : ((PL.length : Int) != D + 1) = false := by rw [hwL.out]; simp
          have q1 := hwD.out
          go_wp2_with fail
          clear q1 q4 q5 i1 i2 j1 hgP hgP2 hg1
          go_loopw [25, 26, 261] (fun y0 y1 i wr => ∃ k : Nat, k ≤ PL.length ∧ i = .int .i64 k ∧ Below w501.heap.size w501 wr) (fun _ _ i _ => PL.length - (intOf i).toNat)
          case atStart => exact ⟨0, by omega, rfl, Below.refl _ _⟩
          case round =>
            obtain ⟨k, hk, rfl, hb⟩ := hrel
            obtain ⟨wo2, hwo2⟩ : ∃ W, W = wr := ⟨_, rfl⟩
            subst hwo2
            by_cases hkn : k < PL.length
            · have hkl : (k : Int) < (PL.length : Int) := by omega
              obtain ⟨x, hx, hx1, hx2⟩ := hpk.out k (by have := hpl.out; omega)
              obtain ⟨hx4, hx5⟩ := hst.out x hx1
              rw [hx2] at hx4
              have hinb := Lib.hid (show (decide (0 ≤ (x : Int)) && decide ((x : Int) < m.segs)) = true by rw [decide_eq_true hx1, decide_eq_true (by omega)]; rfl)
              clear hx1
              replace hx2 := Lib.hid hx2
              have X_wo2 := Lib.hid (X_w501.out.below hb)
              have R_wo2 := Lib.hid (R_w501.out.below hb)
              have O_wo2 := Lib.hid (O_w501.out.below hb)
              have PA_wo2 := Lib.hid (PA_w501.out.below hb)
              have PB_wo2 := Lib.hid (PB_w501.out.below hb)
              have S_wo2 := Lib.hid (S_w501.out.below hb)
              have T_wo2 := Lib.hid (T_w501.out.below hb)
              have P_wo2 := Lib.hid (P_w501.out.below hb)
              have Q_wo2 := Lib.hid (Q_w501.out.below hb)
              have z0_wo2 : w.heap.size < wo2.heap.size := Nat.lt_of_lt_of_le z0_w501 hb.size
              obtain ⟨g5, o5, hA5, hg5, j0⟩ := Row.iat P_wo2.out hx
              have hgg := Option.some.inj hA5
              obtain rfl : gP = g5 := by injection hgg
              obtain rfl : oP = o5 := by injection hgg
              clear hA5 hgg
              replace hx := Lib.hid hx
              replace hx4 := Lib.hid hx4
              have o_X_0 := X_wo2.out.c (i := 0) rfl
              have o_X_1 := X_wo2.out.c (i := 1) rfl
              have o_X_2 := X_wo2.out.c (i := 2) rfl
              go_wp2_with fail
              clear o_X_0 o_X_1 o_X_2
              go_at_call 28
              (with_reducible refine (o_in_b (x : Int) m.segs hinb.out _).mono ?_)
              rintro e w701 ⟨rfl, hb701⟩
              have X_w701 := Lib.hid (X_wo2.out.below hb701)
              have R_w701 := Lib.hid (R_wo2.out.below hb701)
              have O_w701 := Lib.hid (O_wo2.out.below hb701)
              have PA_w701 := Lib.hid (PA_wo2.out.below hb701)
              have PB_w701 := Lib.hid (PB_wo2.out.below hb701)
              have S_w701 := Lib.hid (S_wo2.out.below hb701)
              have T_w701 := Lib.hid (T_wo2.out.below hb701)
              have P_w701 := Lib.hid (P_wo2.out.below hb701)
              have Q_w701 := Lib.hid (Q_wo2.out.below hb701)
              have z0_w701 : w.heap.size < w701.heap.size := Nat.lt_of_lt_of_le z0_wo2 hb701.size
              have B_w701 := bt hb hb701
              clear X_wo2 R_wo2 O_wo2 PA_wo2 PB_wo2 S_wo2 T_wo2 P_wo2 Q_wo2 z0_wo2 hb hb701
              clear j0 hg5
              obtain ⟨g6, o6, hA6, hg6, j2⟩ := Row.iat S_w701.out hx4.out
              have hgg := Option.some.inj hA6
              obtain rfl : gS = g6 := by injection hgg
              obtain rfl : oS = o6 := by injection hgg
              clear hA6 hgg
              go_wp2_with fail
              go_roundw
              case rel => exact ⟨k + 1, by omega, by go_num, B_w701⟩
              case measure => simp [intOf]; omega
            · obtain rfl : k = PL.length := by omega
              have BE := Lib.hid (bt Bq.out (bt B_w501 hb))
              clear hb
              go_wp2_with fail
              go_ret
              exact ⟨rfl, BE.out⟩
theorem both_go (v r : Value) (f0 t0 : Int) {w : World} (hv : InLan w v) (hr : InRows w r) (_h1 : (Lit.int .i64 f0).wf = true) (_h2 : (Lit.int .i64 t0).wf = true) : Calls Try.prog 6 #[v, r, .int .i64 f0, .int .i64 t0] w (True1 w) := by
  obtain ⟨l, A, c, B, d, rfl, hl⟩ := hv
  obtain ⟨O, C, e, rfl, hR⟩ := hr
  exact both_law hl hR f0 t0
end Go.Proofs.Ytgcmklliafcffaa.LanP
