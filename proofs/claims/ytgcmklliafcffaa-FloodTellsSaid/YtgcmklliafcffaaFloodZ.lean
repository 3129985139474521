/-
  FloodTells.
-/
import Derived.Test.YtgcmklliafcffaaFloodW
import Derived.Test.YtgcmklliafcffaaFloodX
import Derived.Test.YtgcmklliafcffaaFloodG
import Derived.Test.YtgcmklliafcffaaFloodI
import Derived.Test.YtgcmklliafcffaaFloodF
import Derived.BigRegion
namespace Go.Proofs.Ytgcmklliafcffaa.LanP
open Go.RowKit Go.Sort Go.Proofs.Ytgcmklliafcffaa.SliceP Go.Proofs.Ytgcmklliafcffaa.BoxP
open Go.Proofs.Ytgcmklliafcffaa.IntP (RowI SlI OwnI)
open Go.Proofs.Ytgcmklliafcffaa.BoolP (RowB SlB OwnB)
open Go.Proofs.Ytgcmklliafcffaa.MacP (arr_out Wrote wp_region_ends outM)
set_option linter.unusedVariables false
set_option maxRecDepth 100000
set_option maxHeartbeats 16000000 in
theorem tells_law {l : L} {A : Option Addr} {c : Nat} {B : Option Addr} {d : Nat} {w : World} {O : List (List Bool)} {C : Option Addr} {e : Nat} (hr : LanR w l A c B d) (hR : RowL bc w C O.length e O) (f0 t0 : Int) : Calls Try.prog 5 #[lv l A c B d, .slice C O.length e, .int .i64 f0, .int .i64 t0] w (True1 w) := by
  obtain ⟨w0, hw0, X0, R0, B0⟩ := new3 w hr
  have hF := Lib.hid (o_few17 hr B0)
  have hsm := Lib.hid (few_small l)
  have hFR := Lib.hid (fun (W : World) (hW : Below w0.heap.size w0 W) => o_rows17 hR (bt B0 hW))
  have hol := Lib.hid (show (fewO O).length ≤ 1000 from Nat.le_trans (fewO_len O) (by omega))
  have hor := Lib.hid (show ∀ r ∈ fewO O, r.length ≤ 1000 from fun r h => Nat.le_trans (fewO_row h) (by omega))
  replace X0 := Lib.hid X0
  replace B0 := Lib.hid B0
  clear hr R0 hR
  go_enter Try.func5, Try.ntmps5
  go_upto_region 1 with fail
  rw [← hw0]
  clear hw0
  have x0 := X0.out.c (i := 0) rfl
  have x1 := X0.out.c (i := 1) rfl
  have x2 := X0.out.c (i := 2) rfl
  have zz := X0.out.lt
  go_wp2_with fail
  go_at_call 21
  (with_reducible refine hF.out.mono ?_)
  rintro e1 w1 ⟨A1, c1, rfl, hb1, hK⟩
  obtain ⟨m, hm⟩ : ∃ m, l.few = m := ⟨_, rfl⟩
  rw [hm] at hK hsm ⊢
  replace hm := Lib.hid hm
  clear x0 x1 x2 zz
  have X1 := Lib.hid (X0.out.below hb1)
  have B1 := Lib.hid (bt B0.out hb1)
  have z01 := Lib.hid (show w.heap.size < w0.heap.size ∧ w0.heap.size ≤ w1.heap.size from ⟨X0.out.lt, hb1.size⟩)
  have hFR1 := Lib.hid (hFR.out w1 hb1)
  replace hK := Lib.hid hK
  clear hb1 X0 B0 hF hFR
  go_wp2_with fail
  go_at_call 22
  (with_reducible refine hFR1.out.mono ?_)
  rintro e1 w9 ⟨C2, e2, rfl, hb9, hK2⟩
  obtain ⟨o, hoo⟩ : ∃ o, fewO O = o := ⟨_, rfl⟩
  rw [hoo] at hK2 hol hor ⊢
  replace hoo := Lib.hid hoo
  have X9 := Lib.hid (X1.out.below hb9)
  have B9 := Lib.hid (bt B1.out hb9)
  have x0 := X9.out.c (i := 0) rfl
  have x1 := X9.out.c (i := 1) rfl
  have x2 := X9.out.c (i := 2) rfl
  have f0 := X9.out.f 0
  have f1 := X9.out.f 1
  have f2 := X9.out.f 2
  have zz := X9.out.lt
  obtain ⟨w2, hw2⟩ : ∃ W, W = ((w9.setCell ⟨w.heap.size, 0, none⟩ (.int .i64 m.segs)).setCell ⟨w.heap.size, 1, none⟩ (.slice A1 m.plans.length c1)).setCell ⟨w.heap.size, 2, none⟩ (.slice B m.hosts.length d) := ⟨_, rfl⟩
  have X2 := Lib.hid (show Bx w2 w.heap.size 25 #[.int .i64 m.segs, .slice A1 m.plans.length c1, .slice B m.hosts.length d] by rw [hw2]; exact Bx.three X9.out)
  have B2 := Lib.hid (show Below w.heap.size w w2 by rw [hw2]; exact below3 B9.out (Nat.le_refl _) _ _ _)
  have hg2 : w9.grownBy w2 (some w.heap.size) := by rw [hw2]; exact ((setCell_grown _ _ _ _).trans (setCell_grown _ _ _ _)).trans (setCell_grown _ _ _ _)
  have R2 := Lib.hid (hK.out w.heap.size w2 z01.out.1 ((below_grown hb9).trans hg2) B2.out)
  have O2 := Lib.hid (hK2 w.heap.size w2 (Nat.lt_of_lt_of_le z01.out.1 z01.out.2) hg2 B2.out)
  go_upto_region 2 with fail
  rw [← hw2]
  have z2 := X2.out.lt
  clear hw2 hb9 hK hK2 hFR1 hg2 x0 x1 x2 f0 f1 f2 zz X1 X9 B1 B9
  cases hk : (m.ok && rowsB m o)
  · have hw1 := Lib.hid (whyO_not hk [f0])
    have hw2 := Lib.hid (whyO_not hk [f0, t0])
    replace hk := Lib.hid hk
    have o_X_0 := X2.out.c (i := 0) rfl
    have o_X_1 := X2.out.c (i := 1) rfl
    have o_X_2 := X2.out.c (i := 2) rfl
    go_wp2_with fail
    clear o_X_0 o_X_1 o_X_2
    go_at_call 23
    (with_reducible refine (o_reach_no R2.out hsm.out O2.out hol.out hor.out f0 hw1.out (by decide)).mono ?_)
    rintro e w101 ⟨rfl, hb101⟩
    have X_w101 := Lib.hid (X2.out.below hb101)
    have R_w101 := Lib.hid (R2.out.below hb101)
    have O_w101 := Lib.hid (O2.out.below hb101)
    have z0_w101 : w.heap.size < w101.heap.size := Nat.lt_of_lt_of_le z2 hb101.size
    clear X2 R2 O2 z2
    have o_X_0 := X_w101.out.c (i := 0) rfl
    have o_X_1 := X_w101.out.c (i := 1) rfl
    have o_X_2 := X_w101.out.c (i := 2) rfl
    go_wp2_with fail
    clear o_X_0 o_X_1 o_X_2
    go_at_call 24
    (with_reducible refine (o_steps_no R_w101.out hsm.out O_w101.out hol.out hor.out f0 hw1.out (by decide)).mono ?_)
    rintro e w102 ⟨rfl, hb102⟩
    have X_w102 := Lib.hid (X_w101.out.below hb102)
    have R_w102 := Lib.hid (R_w101.out.below hb102)
    have O_w102 := Lib.hid (O_w101.out.below hb102)
    have z0_w102 : w.heap.size < w102.heap.size := Nat.lt_of_lt_of_le z0_w101 hb102.size
    have B_w102 := bt hb101 hb102
    clear X_w101 R_w101 O_w101 z0_w101 hb101 hb102
    have o_X_0 := X_w102.out.c (i := 0) rfl
    have o_X_1 := X_w102.out.c (i := 1) rfl
    have o_X_2 := X_w102.out.c (i := 2) rfl
    go_wp2_with fail
    clear o_X_0 o_X_1 o_X_2
    go_at_call 25
    (with_reducible refine (o_copies_no R_w102.out hsm.out O_w102.out hol.out hor.out f0 hw1.out (by decide)).mono ?_)
    rintro e w103 ⟨rfl, hb103⟩
    have X_w103 := Lib.hid (X_w102.out.below hb103)
    have R_w103 := Lib.hid (R_w102.out.below hb103)
    have O_w103 := Lib.hid (O_w102.out.below hb103)
    have z0_w103 : w.heap.size < w103.heap.size := Nat.lt_of_lt_of_le z0_w102 hb103.size
    have B_w103 := bt B_w102 hb103
    clear X_w102 R_w102 O_w102 z0_w102 B_w102 hb103
    have o_X_0 := X_w103.out.c (i := 0) rfl
    have o_X_1 := X_w103.out.c (i := 1) rfl
    have o_X_2 := X_w103.out.c (i := 2) rfl
    go_wp2_with fail
    clear o_X_0 o_X_1 o_X_2
    go_at_call 26
    (with_reducible refine (o_path_no R_w103.out hsm.out O_w103.out hol.out hor.out f0 t0 hw2.out (by decide)).mono ?_)
    rintro e w104 ⟨rfl, hb104⟩
    have X_w104 := Lib.hid (X_w103.out.below hb104)
    have R_w104 := Lib.hid (R_w103.out.below hb104)
    have O_w104 := Lib.hid (O_w103.out.below hb104)
    have z0_w104 : w.heap.size < w104.heap.size := Nat.lt_of_lt_of_le z0_w103 hb104.size
    have B_w104 := bt B_w103 hb104
    clear X_w103 R_w103 O_w103 z0_w103 B_w103 hb104
    have o_X_0 := X_w104.out.c (i := 0) rfl
    have o_X_1 := X_w104.out.c (i := 1) rfl
    have o_X_2 := X_w104.out.c (i := 2) rfl
    go_wp2_with fail
    clear o_X_0 o_X_1 o_X_2
    go_at_call 27
    (with_reducible refine (t_may R_w104.out hsm.out O_w104.out hol.out hor.out hk.out).mono ?_)
    rintro e w105 ⟨rfl, hb105⟩
    have X_w105 := Lib.hid (X_w104.out.below hb105)
    have R_w105 := Lib.hid (R_w104.out.below hb105)
    have O_w105 := Lib.hid (O_w104.out.below hb105)
    have z0_w105 : w.heap.size < w105.heap.size := Nat.lt_of_lt_of_le z0_w104 hb105.size
    have B_w105 := bt B_w104 hb105
    clear X_w104 R_w104 O_w104 z0_w104 B_w104 hb105
    have o_X_0 := X_w105.out.c (i := 0) rfl
    have o_X_1 := X_w105.out.c (i := 1) rfl
    have o_X_2 := X_w105.out.c (i := 2) rfl
    go_wp2_with fail
    clear o_X_0 o_X_1 o_X_2
    go_at_call 29
    (with_reducible refine (o_alive17 _).mono ?_)
    rintro e w106 ⟨rfl, hb106⟩
    have X_w106 := Lib.hid (X_w105.out.below hb106)
    have R_w106 := Lib.hid (R_w105.out.below hb106)
    have O_w106 := Lib.hid (O_w105.out.below hb106)
    have z0_w106 : w.heap.size < w106.heap.size := Nat.lt_of_lt_of_le z0_w105 hb106.size
    have B_w106 := bt B_w105 hb106
    clear X_w105 R_w105 O_w105 z0_w105 B_w105 hb106
    go_wp2_with fail
    go_ret
    exact ⟨rfl, bt B2.out B_w106⟩
  · have hK := Lib.hid hk
    have hok := (Bool.and_eq_true _ _ ▸ hk : m.ok = true ∧ rowsB m o = true)
    replace hk := Lib.hid hk
    have hwy := Lib.hid (fun (ss : List Int) hs => whyO_in hK.out (ss := ss) hs)
    have hsg := ok_segs hok.1
    have h8s : m.segs ≤ 8 := hsg.2.1
    have hnseg := Lib.hid hsg.2.2
    have hfit := Lib.hid (ok_fit hok.1)
    have hrw := Lib.hid hok.2
    have hmok := Lib.hid hok.1
    have hn8 := Lib.hid (show m.n ≤ 8 by omega)
    clear hok hsg
    by_cases hf : 0 ≤ f0 ∧ f0 < m.segs
    · obtain ⟨a, ha9⟩ : ∃ a : Nat, f0 = (a : Int) := ⟨f0.toNat, by omega⟩
      subst ha9
      have han := Lib.hid (show a < m.n by have := hnseg.out; omega)
      have hwa := Lib.hid (hwy.out [(a : Int)] (by intro x hx; rw [List.mem_singleton.1 hx]; exact hf))
      have hin := Lib.hid (show (decide (0 ≤ (a : Int)) && decide ((a : Int) < m.segs)) = true by rw [decide_eq_true hf.1, decide_eq_true hf.2]; rfl)
      have hTS := Lib.hid (fun (W : World) (hW : Below w2.heap.size w2 W) => t_steps (R2.out.below hW) hsm.out (O2.out.below hW) hrw.out hn8.out han.out)
      have hTR := Lib.hid (fun (W : World) (hW : Below w2.heap.size w2 W) => t_reach (R2.out.below hW) hsm.out (O2.out.below hW) hrw.out hfit.out hn8.out han.out)
      have hTC := Lib.hid (fun (W : World) (hW : Below w2.heap.size w2 W) => t_copies (R2.out.below hW) hsm.out (O2.out.below hW) hrw.out hfit.out hn8.out han.out)
      have hTP := Lib.hid (fun (W : World) (hW : Below w2.heap.size w2 W) (t D : Nat) ht hD => t_path (R2.out.below hW) hsm.out (O2.out.below hW) hrw.out hfit.out hn8.out han.out (t := t) ht (D := D) hD)
      obtain ⟨p, hp⟩ : ∃ p, m.op o = p := ⟨_, rfl⟩
      have pok : p.ok = true := by rw [← hp]; exact op_ok o hmok.out
      have hpf := Lib.hid (ok_fit pok)
      have hps := Lib.hid (show p.segs = m.segs by rw [← hp]; rfl)
      have hpn := Lib.hid (show p.n = m.n by rw [← hp]; rfl)
      rw [hp] at hTS hTR hTC hTP
      obtain ⟨RS, hRS⟩ : ∃ P, stpR p (a : Int) = P := ⟨_, rfl⟩
      obtain ⟨PA, hPA⟩ : ∃ P, p.part (a : Int) = P := ⟨_, rfl⟩
      obtain ⟨CP, hCP⟩ : ∃ P, p.copies (a : Int) = P := ⟨_, rfl⟩
      rw [hRS] at hTS
      rw [hPA] at hTR
      rw [hCP] at hTC
      have hSl := Lib.hid (show (RS.length : Int) = m.segs by rw [← hRS, stp_len, hpn.out]; exact hnseg.out)
      have hPl := Lib.hid (show PA.length ≤ 1000 by have := part_len p (a : Int); rw [hPA] at this; have := hnseg.out; have := hpn.out; omega)
      have hSl8 := Lib.hid (show RS.length ≤ 1000 by have := hSl.out; omega)
      have hat := Lib.hid (show ∀ x : Nat, (x : Int) < m.segs → RS[x]? = some (p.dst (a : Int) x) from fun x hx => by rw [← hRS]; exact stp_at hpf.out (by rw [hps.out]; exact hx))
      have hCC : (CP != CP) = false := by simp
      replace hp := Lib.hid hp
      replace hRS := Lib.hid hRS
      replace hPA := Lib.hid hPA
      replace hCP := Lib.hid hCP
      clear pok
      replace hf := Lib.hid hf
      have o_X_0 := X2.out.c (i := 0) rfl
      have o_X_1 := X2.out.c (i := 1) rfl
      have o_X_2 := X2.out.c (i := 2) rfl
      go_wp2_with fail
      clear o_X_0 o_X_1 o_X_2
      go_at_call 23
      (with_reducible refine (o_reach_ok R2.out hsm.out O2.out hol.out hor.out (a : Int) hwa.out).mono ?_)
      rw [hp.out, hPA.out]
      rintro e w301 ⟨AA, cA, rfl, rA, hb301⟩
      have X_w301 := Lib.hid (X2.out.below hb301)
      have R_w301 := Lib.hid (R2.out.below hb301)
      have O_w301 := Lib.hid (O2.out.below hb301)
      have PA_w301 := Lib.hid (rA)
      have z0_w301 : w.heap.size < w301.heap.size := Nat.lt_of_lt_of_le z2 hb301.size
      clear X2 R2 O2 z2
      have o_X_0 := X_w301.out.c (i := 0) rfl
      have o_X_1 := X_w301.out.c (i := 1) rfl
      have o_X_2 := X_w301.out.c (i := 2) rfl
      go_wp2_with fail
      clear o_X_0 o_X_1 o_X_2
      go_at_call 24
      (with_reducible refine (o_steps_ok R_w301.out hsm.out O_w301.out hol.out hor.out (a : Int) hwa.out).mono ?_)
      rw [hp.out, hRS.out]
      rintro e w302 ⟨AS, cS, rfl, rS, hb302⟩
      have X_w302 := Lib.hid (X_w301.out.below hb302)
      have R_w302 := Lib.hid (R_w301.out.below hb302)
      have O_w302 := Lib.hid (O_w301.out.below hb302)
      have PA_w302 := Lib.hid (PA_w301.out.below hb302)
      have S_w302 := Lib.hid (rS)
      have z0_w302 : w.heap.size < w302.heap.size := Nat.lt_of_lt_of_le z0_w301 hb302.size
      have B_w302 := bt hb301 hb302
      clear X_w301 R_w301 O_w301 PA_w301 z0_w301 hb301 hb302
      have o_X_0 := X_w302.out.c (i := 0) rfl
      have o_X_1 := X_w302.out.c (i := 1) rfl
      have o_X_2 := X_w302.out.c (i := 2) rfl
      go_wp2_with fail
      clear o_X_0 o_X_1 o_X_2
      go_at_call 25
      (with_reducible refine (o_copies_ok R_w302.out hsm.out O_w302.out hol.out hor.out (a : Int) hwa.out).mono ?_)
      rw [hp.out, hCP.out]
      rintro e w303 ⟨rfl, hb303⟩
      have X_w303 := Lib.hid (X_w302.out.below hb303)
      have R_w303 := Lib.hid (R_w302.out.below hb303)
      have O_w303 := Lib.hid (O_w302.out.below hb303)
      have PA_w303 := Lib.hid (PA_w302.out.below hb303)
      have S_w303 := Lib.hid (S_w302.out.below hb303)
      have z0_w303 : w.heap.size < w303.heap.size := Nat.lt_of_lt_of_le z0_w302 hb303.size
      have B_w303 := bt B_w302 hb303
      clear X_w302 R_w302 O_w302 PA_w302 S_w302 z0_w302 B_w302 hb303
      by_cases ht : 0 ≤ t0 ∧ t0 < m.segs
      · obtain ⟨b, hb9⟩ : ∃ b : Nat, t0 = (b : Int) := ⟨t0.toNat, by omega⟩
        subst hb9
        have hwab := Lib.hid (hwy.out [(a : Int), (b : Int)] (by intro x hx; rcases List.mem_cons.1 hx with h | h; rw [h]; exact hf.out; rw [List.mem_singleton.1 h]; exact ht))
        have hin2 := Lib.hid (show (decide (0 ≤ (b : Int)) && decide ((b : Int) < m.segs)) = true by rw [decide_eq_true ht.1, decide_eq_true ht.2]; rfl)
        have hbn := Lib.hid (show b < m.n by have := hnseg.out; omega)
        obtain ⟨PL, hPL⟩ : ∃ P, pathS p (a : Int) (b : Int) = P := ⟨_, rfl⟩
        obtain ⟨er, hER⟩ : ∃ P, pathE p (a : Int) (b : Int) = P := ⟨_, rfl⟩
        have hbl : (b : Int) < (RS.length : Int) := by rw [hSl.out]; exact ht.2
        have hab := hat.out b ht.2
        obtain ⟨D, hD⟩ : ∃ d, p.dst (a : Int) (b : Int) = d := ⟨_, rfl⟩
        rw [hD] at hab
        have hpn9 := Lib.hid (show D < 0 → er = 4 ∧ PL = [] from fun h => by
          constructor
          · rw [← hER]; unfold pathE; rw [hD, if_pos h]
          · rw [← hPL]; unfold pathS; rw [hD, if_pos h])
        have hpy := Lib.hid (show ¬ D < 0 → er = 0 ∧ PL = pathR p (a : Int) (b : Int) ∧ PL.length ≤ 1000 from fun h => by
          have h8 := dst_lt hpf.out (dst_is hpf.out hf.out.1 (by rw [hps.out]; exact hf.out.2)) ht.1 (by rw [hps.out]; exact ht.2)
          rw [hD, hps.out] at h8
          have e1 : PL = pathR p (a : Int) (b : Int) := by rw [← hPL]; unfold pathS; rw [hD, if_neg h]
          refine ⟨by rw [← hER]; unfold pathE; rw [hD, if_neg h], e1, ?_⟩
          rw [e1, pathR_len (D := D.toNat) (by rw [hD]; omega)]
          omega)
        replace hab := Lib.hid hab
        replace hPL := Lib.hid hPL
        replace hER := Lib.hid hER
        replace hD := Lib.hid hD
        replace ht := Lib.hid ht
        have o_X_0 := X_w303.out.c (i := 0) rfl
        have o_X_1 := X_w303.out.c (i := 1) rfl
        have o_X_2 := X_w303.out.c (i := 2) rfl
        go_wp2_with fail
        clear o_X_0 o_X_1 o_X_2
        go_at_call 26
        (with_reducible refine (o_path_any R_w303.out hsm.out O_w303.out hol.out hor.out (a : Int) (b : Int) hwab.out).mono ?_)
        rw [hp.out, hPL.out, hER.out]
        rintro e w304 ⟨AP, cP, rfl, rP, hb304⟩
        have X_w304 := Lib.hid (X_w303.out.below hb304)
        have R_w304 := Lib.hid (R_w303.out.below hb304)
        have O_w304 := Lib.hid (O_w303.out.below hb304)
        have PA_w304 := Lib.hid (PA_w303.out.below hb304)
        have S_w304 := Lib.hid (S_w303.out.below hb304)
        have P_w304 := Lib.hid (rP)
        have z0_w304 : w.heap.size < w304.heap.size := Nat.lt_of_lt_of_le z0_w303 hb304.size
        have B_w304 := bt B_w303 hb304
        clear X_w303 R_w303 O_w303 PA_w303 S_w303 z0_w303 B_w303 hb304
        have o_X_0 := X_w304.out.c (i := 0) rfl
        have o_X_1 := X_w304.out.c (i := 1) rfl
        have o_X_2 := X_w304.out.c (i := 2) rfl
        go_wp2_with fail
        clear o_X_0 o_X_1 o_X_2
        go_at_call 27
        (with_reducible refine (t_may R_w304.out hsm.out O_w304.out hol.out hor.out hk.out).mono ?_)
        rintro e w305 ⟨rfl, hb305⟩
        have X_w305 := Lib.hid (X_w304.out.below hb305)
        have R_w305 := Lib.hid (R_w304.out.below hb305)
        have O_w305 := Lib.hid (O_w304.out.below hb305)
        have PA_w305 := Lib.hid (PA_w304.out.below hb305)
        have S_w305 := Lib.hid (S_w304.out.below hb305)
        have P_w305 := Lib.hid (P_w304.out.below hb305)
        have z0_w305 : w.heap.size < w305.heap.size := Nat.lt_of_lt_of_le z0_w304 hb305.size
        have B_w305 := bt B_w304 hb305
        clear X_w304 R_w304 O_w304 PA_w304 S_w304 P_w304 z0_w304 B_w304 hb305
        have o_X_0 := X_w305.out.c (i := 0) rfl
        have o_X_1 := X_w305.out.c (i := 1) rfl
        have o_X_2 := X_w305.out.c (i := 2) rfl
        go_wp2_with fail
        clear o_X_0 o_X_1 o_X_2
        go_at_call 28
        (with_reducible refine (o_in_b (a : Int) m.segs hin.out _).mono ?_)
        rintro e w306 ⟨rfl, hb306⟩
        have X_w306 := Lib.hid (X_w305.out.below hb306)
        have R_w306 := Lib.hid (R_w305.out.below hb306)
        have O_w306 := Lib.hid (O_w305.out.below hb306)
        have PA_w306 := Lib.hid (PA_w305.out.below hb306)
        have S_w306 := Lib.hid (S_w305.out.below hb306)
        have P_w306 := Lib.hid (P_w305.out.below hb306)
        have z0_w306 : w.heap.size < w306.heap.size := Nat.lt_of_lt_of_le z0_w305 hb306.size
        have B_w306 := bt B_w305 hb306
        clear X_w305 R_w305 O_w305 PA_w305 S_w305 P_w305 z0_w305 B_w305 hb306
        have o_X_0 := X_w306.out.c (i := 0) rfl
        have o_X_1 := X_w306.out.c (i := 1) rfl
        have o_X_2 := X_w306.out.c (i := 2) rfl
        go_wp2_with fail
        clear o_X_0 o_X_1 o_X_2
        go_at_call 30
        (with_reducible refine (hTS.out _ B_w306).mono ?_)
        rintro e w307 ⟨AT, cT, rfl, rT, fT, hb307⟩
        have X_w307 := Lib.hid (X_w306.out.below hb307)
        have R_w307 := Lib.hid (R_w306.out.below hb307)
        have O_w307 := Lib.hid (O_w306.out.below hb307)
        have PA_w307 := Lib.hid (PA_w306.out.below hb307)
        have S_w307 := Lib.hid (S_w306.out.below hb307)
        have P_w307 := Lib.hid (P_w306.out.below hb307)
        have T_w307 := Lib.hid (rT)
        have z0_w307 : w.heap.size < w307.heap.size := Nat.lt_of_lt_of_le z0_w306 hb307.size
        have B_w307 := bt B_w306 hb307
        clear X_w306 R_w306 O_w306 PA_w306 S_w306 P_w306 z0_w306 B_w306 hb307
        have o_X_0 := X_w307.out.c (i := 0) rfl
        have o_X_1 := X_w307.out.c (i := 1) rfl
        have o_X_2 := X_w307.out.c (i := 2) rfl
        go_wp2_with fail
        clear o_X_0 o_X_1 o_X_2
        go_at_call 32
        (with_reducible refine (hTR.out _ B_w307).mono ?_)
        rintro e w308 ⟨AB, cB, rfl, rB, hb308⟩
        have X_w308 := Lib.hid (X_w307.out.below hb308)
        have R_w308 := Lib.hid (R_w307.out.below hb308)
        have O_w308 := Lib.hid (O_w307.out.below hb308)
        have PA_w308 := Lib.hid (PA_w307.out.below hb308)
        have S_w308 := Lib.hid (S_w307.out.below hb308)
        have P_w308 := Lib.hid (P_w307.out.below hb308)
        have T_w308 := Lib.hid (T_w307.out.below hb308)
        have PB_w308 := Lib.hid (rB)
        have z0_w308 : w.heap.size < w308.heap.size := Nat.lt_of_lt_of_le z0_w307 hb308.size
        have B_w308 := bt B_w307 hb308
        clear X_w307 R_w307 O_w307 PA_w307 S_w307 P_w307 T_w307 z0_w307 B_w307 hb308
        have o_X_0 := X_w308.out.c (i := 0) rfl
        have o_X_1 := X_w308.out.c (i := 1) rfl
        have o_X_2 := X_w308.out.c (i := 2) rfl
        go_wp2_with fail
        clear o_X_0 o_X_1 o_X_2
        go_at_call 31
        (with_reducible refine (r_same PA_w308.out PB_w308.out hPl.out (decide_eq_true rfl)).mono ?_)
        rintro e w309 ⟨rfl, hb309⟩
        have X_w309 := Lib.hid (X_w308.out.below hb309)
        have R_w309 := Lib.hid (R_w308.out.below hb309)
        have O_w309 := Lib.hid (O_w308.out.below hb309)
        have PA_w309 := Lib.hid (PA_w308.out.below hb309)
        have S_w309 := Lib.hid (S_w308.out.below hb309)
        have P_w309 := Lib.hid (P_w308.out.below hb309)
        have T_w309 := Lib.hid (T_w308.out.below hb309)
        have PB_w309 := Lib.hid (PB_w308.out.below hb309)
        have z0_w309 : w.heap.size < w309.heap.size := Nat.lt_of_lt_of_le z0_w308 hb309.size
        have B_w309 := bt B_w308 hb309
        clear X_w308 R_w308 O_w308 PA_w308 S_w308 P_w308 T_w308 PB_w308 z0_w308 B_w308 hb309
        have o_X_0 := X_w309.out.c (i := 0) rfl
        have o_X_1 := X_w309.out.c (i := 1) rfl
        have o_X_2 := X_w309.out.c (i := 2) rfl
        go_wp2_with fail
        clear o_X_0 o_X_1 o_X_2
        go_at_call 31
        (with_reducible refine (r_same S_w309.out T_w309.out hSl8.out (decide_eq_true rfl)).mono ?_)
        rintro e w310 ⟨rfl, hb310⟩
        have X_w310 := Lib.hid (X_w309.out.below hb310)
        have R_w310 := Lib.hid (R_w309.out.below hb310)
        have O_w310 := Lib.hid (O_w309.out.below hb310)
        have PA_w310 := Lib.hid (PA_w309.out.below hb310)
        have S_w310 := Lib.hid (S_w309.out.below hb310)
        have P_w310 := Lib.hid (P_w309.out.below hb310)
        have T_w310 := Lib.hid (T_w309.out.below hb310)
        have PB_w310 := Lib.hid (PB_w309.out.below hb310)
        have z0_w310 : w.heap.size < w310.heap.size := Nat.lt_of_lt_of_le z0_w309 hb310.size
        have B_w310 := bt B_w309 hb310
        clear X_w309 R_w309 O_w309 PA_w309 S_w309 P_w309 T_w309 PB_w309 z0_w309 B_w309 hb310
        have o_X_0 := X_w310.out.c (i := 0) rfl
        have o_X_1 := X_w310.out.c (i := 1) rfl
        have o_X_2 := X_w310.out.c (i := 2) rfl
        go_wp2_with fail
        clear o_X_0 o_X_1 o_X_2
        go_at_call 33
        (with_reducible refine (hTC.out _ B_w310).mono ?_)
        rintro e w311 ⟨rfl, hb311⟩
        have X_w311 := Lib.hid (X_w310.out.below hb311)
        have R_w311 := Lib.hid (R_w310.out.below hb311)
        have O_w311 := Lib.hid (O_w310.out.below hb311)
        have PA_w311 := Lib.hid (PA_w310.out.below hb311)
        have S_w311 := Lib.hid (S_w310.out.below hb311)
        have P_w311 := Lib.hid (P_w310.out.below hb311)
        have T_w311 := Lib.hid (T_w310.out.below hb311)
        have PB_w311 := Lib.hid (PB_w310.out.below hb311)
        have z0_w311 : w.heap.size < w311.heap.size := Nat.lt_of_lt_of_le z0_w310 hb311.size
        have B_w311 := bt B_w310 hb311
        clear X_w310 R_w310 O_w310 PA_w310 S_w310 P_w310 T_w310 PB_w310 z0_w310 B_w310 hb311
        have o_X_0 := X_w311.out.c (i := 0) rfl
        have o_X_1 := X_w311.out.c (i := 1) rfl
        have o_X_2 := X_w311.out.c (i := 2) rfl
        go_wp2_with fail
        clear o_X_0 o_X_1 o_X_2
        go_at_call 29
        (with_reducible refine (o_alive17 _).mono ?_)
        rintro e w312 ⟨rfl, hb312⟩
        have X_w312 := Lib.hid (X_w311.out.below hb312)
        have R_w312 := Lib.hid (R_w311.out.below hb312)
        have O_w312 := Lib.hid (O_w311.out.below hb312)
        have PA_w312 := Lib.hid (PA_w311.out.below hb312)
        have S_w312 := Lib.hid (S_w311.out.below hb312)
        have P_w312 := Lib.hid (P_w311.out.below hb312)
        have T_w312 := Lib.hid (T_w311.out.below hb312)
        have PB_w312 := Lib.hid (PB_w311.out.below hb312)
        have z0_w312 : w.heap.size < w312.heap.size := Nat.lt_of_lt_of_le z0_w311 hb312.size
        have B_w312 := bt B_w311 hb312
        clear X_w311 R_w311 O_w311 PA_w311 S_w311 P_w311 T_w311 PB_w311 z0_w311 B_w311 hb312
        have o_X_0 := X_w312.out.c (i := 0) rfl
        have o_X_1 := X_w312.out.c (i := 1) rfl
        have o_X_2 := X_w312.out.c (i := 2) rfl
        go_wp2_with fail
        clear o_X_0 o_X_1 o_X_2
        go_at_call 28
        (with_reducible refine (o_in_b (b : Int) m.segs hin2.out _).mono ?_)
        rintro e w313 ⟨rfl, hb313⟩
        have X_w313 := Lib.hid (X_w312.out.below hb313)
        have R_w313 := Lib.hid (R_w312.out.below hb313)
        have O_w313 := Lib.hid (O_w312.out.below hb313)
        have PA_w313 := Lib.hid (PA_w312.out.below hb313)
        have S_w313 := Lib.hid (S_w312.out.below hb313)
        have P_w313 := Lib.hid (P_w312.out.below hb313)
        have T_w313 := Lib.hid (T_w312.out.below hb313)
        have PB_w313 := Lib.hid (PB_w312.out.below hb313)
        have z0_w313 : w.heap.size < w313.heap.size := Nat.lt_of_lt_of_le z0_w312 hb313.size
        have B_w313 := bt B_w312 hb313
        clear X_w312 R_w312 O_w312 PA_w312 S_w312 P_w312 T_w312 PB_w312 z0_w312 B_w312 hb313
        obtain ⟨gT, oT, hAT, hgT, j0⟩ := Row.iat T_w313.out hab.out
        subst hAT
        by_cases hD0 : D < 0
        · obtain ⟨he4, hpl0⟩ := hpn9.out hD0
          subst he4; subst hpl0
          go_wp2_with fail
          go_ret
          exact ⟨rfl, bt B2.out B_w313⟩
        · obtain ⟨he0, hpl0, hpl8⟩ := hpy.out (by omega)
          subst he0
          have hpth := Lib.hid (fun W hW => hTP.out W hW b D.toNat hbn.out (by rw [hD.out]; omega))
          rw [← hpl0] at hpth
          replace hpl0 := Lib.hid hpl0
          have o_X_0 := X_w313.out.c (i := 0) rfl
          have o_X_1 := X_w313.out.c (i := 1) rfl
          have o_X_2 := X_w313.out.c (i := 2) rfl
          go_wp2_with fail
          clear o_X_0 o_X_1 o_X_2
          go_at_call 34
          (with_reducible refine (hpth.out _ B_w313).mono ?_)
          rintro e w314 ⟨AZ, cZ, rfl, rZ, hb314⟩
          have X_w314 := Lib.hid (X_w313.out.below hb314)
          have R_w314 := Lib.hid (R_w313.out.below hb314)
          have O_w314 := Lib.hid (O_w313.out.below hb314)
          have PA_w314 := Lib.hid (PA_w313.out.below hb314)
          have S_w314 := Lib.hid (S_w313.out.below hb314)
          have P_w314 := Lib.hid (P_w313.out.below hb314)
          have T_w314 := Lib.hid (T_w313.out.below hb314)
          have PB_w314 := Lib.hid (PB_w313.out.below hb314)
          have Z_w314 := Lib.hid (rZ)
          have z0_w314 : w.heap.size < w314.heap.size := Nat.lt_of_lt_of_le z0_w313 hb314.size
          have B_w314 := bt B_w313 hb314
          clear X_w313 R_w313 O_w313 PA_w313 S_w313 P_w313 T_w313 PB_w313 z0_w313 B_w313 hb314
          have o_X_0 := X_w314.out.c (i := 0) rfl
          have o_X_1 := X_w314.out.c (i := 1) rfl
          have o_X_2 := X_w314.out.c (i := 2) rfl
          go_wp2_with fail
          clear o_X_0 o_X_1 o_X_2
          go_at_call 31
          (with_reducible refine (r_same P_w314.out Z_w314.out hpl8 (decide_eq_true rfl)).mono ?_)
          rintro e w315 ⟨rfl, hb315⟩
          have X_w315 := Lib.hid (X_w314.out.below hb315)
          have R_w315 := Lib.hid (R_w314.out.below hb315)
          have O_w315 := Lib.hid (O_w314.out.below hb315)
          have PA_w315 := Lib.hid (PA_w314.out.below hb315)
          have S_w315 := Lib.hid (S_w314.out.below hb315)
          have P_w315 := Lib.hid (P_w314.out.below hb315)
          have T_w315 := Lib.hid (T_w314.out.below hb315)
          have PB_w315 := Lib.hid (PB_w314.out.below hb315)
          have Z_w315 := Lib.hid (Z_w314.out.below hb315)
          have z0_w315 : w.heap.size < w315.heap.size := Nat.lt_of_lt_of_le z0_w314 hb315.size
          have B_w315 := bt B_w314 hb315
          clear X_w314 R_w314 O_w314 PA_w314 S_w314 P_w314 T_w314 PB_w314 Z_w314 z0_w314 B_w314 hb315
          go_wp2_with fail
          go_ret
          exact ⟨rfl, bt B2.out B_w315⟩
      · have hw2 := Lib.hid (whyO_out hK.out (ss := [(a : Int), t0]) (x := t0) (by simp) ht)
        have hin2 := Lib.hid (show (decide (0 ≤ t0) && decide (t0 < m.segs)) = false by rw [← Bool.not_eq_true]; simp only [Bool.and_eq_true, decide_eq_true_eq]; exact ht)
        replace ht := Lib.hid ht
        have o_X_0 := X_w303.out.c (i := 0) rfl
        have o_X_1 := X_w303.out.c (i := 1) rfl
        have o_X_2 := X_w303.out.c (i := 2) rfl
        go_wp2_with fail
        clear o_X_0 o_X_1 o_X_2
        go_at_call 26
        (with_reducible refine (o_path_no R_w303.out hsm.out O_w303.out hol.out hor.out (a : Int) t0 hw2.out (by decide)).mono ?_)
        rintro e w304 ⟨rfl, hb304⟩
        have X_w304 := Lib.hid (X_w303.out.below hb304)
        have R_w304 := Lib.hid (R_w303.out.below hb304)
        have O_w304 := Lib.hid (O_w303.out.below hb304)
        have PA_w304 := Lib.hid (PA_w303.out.below hb304)
        have S_w304 := Lib.hid (S_w303.out.below hb304)
        have z0_w304 : w.heap.size < w304.heap.size := Nat.lt_of_lt_of_le z0_w303 hb304.size
        have B_w304 := bt B_w303 hb304
        clear X_w303 R_w303 O_w303 PA_w303 S_w303 z0_w303 B_w303 hb304
        have o_X_0 := X_w304.out.c (i := 0) rfl
        have o_X_1 := X_w304.out.c (i := 1) rfl
        have o_X_2 := X_w304.out.c (i := 2) rfl
        go_wp2_with fail
        clear o_X_0 o_X_1 o_X_2
        go_at_call 27
        (with_reducible refine (t_may R_w304.out hsm.out O_w304.out hol.out hor.out hk.out).mono ?_)
        rintro e w305 ⟨rfl, hb305⟩
        have X_w305 := Lib.hid (X_w304.out.below hb305)
        have R_w305 := Lib.hid (R_w304.out.below hb305)
        have O_w305 := Lib.hid (O_w304.out.below hb305)
        have PA_w305 := Lib.hid (PA_w304.out.below hb305)
        have S_w305 := Lib.hid (S_w304.out.below hb305)
        have z0_w305 : w.heap.size < w305.heap.size := Nat.lt_of_lt_of_le z0_w304 hb305.size
        have B_w305 := bt B_w304 hb305
        clear X_w304 R_w304 O_w304 PA_w304 S_w304 z0_w304 B_w304 hb305
        have o_X_0 := X_w305.out.c (i := 0) rfl
        have o_X_1 := X_w305.out.c (i := 1) rfl
        have o_X_2 := X_w305.out.c (i := 2) rfl
        go_wp2_with fail
        clear o_X_0 o_X_1 o_X_2
        go_at_call 28
        (with_reducible refine (o_in_b (a : Int) m.segs hin.out _).mono ?_)
        rintro e w306 ⟨rfl, hb306⟩
        have X_w306 := Lib.hid (X_w305.out.below hb306)
        have R_w306 := Lib.hid (R_w305.out.below hb306)
        have O_w306 := Lib.hid (O_w305.out.below hb306)
        have PA_w306 := Lib.hid (PA_w305.out.below hb306)
        have S_w306 := Lib.hid (S_w305.out.below hb306)
        have z0_w306 : w.heap.size < w306.heap.size := Nat.lt_of_lt_of_le z0_w305 hb306.size
        have B_w306 := bt B_w305 hb306
        clear X_w305 R_w305 O_w305 PA_w305 S_w305 z0_w305 B_w305 hb306
        have o_X_0 := X_w306.out.c (i := 0) rfl
        have o_X_1 := X_w306.out.c (i := 1) rfl
        have o_X_2 := X_w306.out.c (i := 2) rfl
        go_wp2_with fail
        clear o_X_0 o_X_1 o_X_2
        go_at_call 30
        (with_reducible refine (hTS.out _ B_w306).mono ?_)
        rintro e w307 ⟨AT, cT, rfl, rT, fT, hb307⟩
        have X_w307 := Lib.hid (X_w306.out.below hb307)
        have R_w307 := Lib.hid (R_w306.out.below hb307)
        have O_w307 := Lib.hid (O_w306.out.below hb307)
        have PA_w307 := Lib.hid (PA_w306.out.below hb307)
        have S_w307 := Lib.hid (S_w306.out.below hb307)
        have T_w307 := Lib.hid (rT)
        have z0_w307 : w.heap.size < w307.heap.size := Nat.lt_of_lt_of_le z0_w306 hb307.size
        have B_w307 := bt B_w306 hb307
        clear X_w306 R_w306 O_w306 PA_w306 S_w306 z0_w306 B_w306 hb307
        have o_X_0 := X_w307.out.c (i := 0) rfl
        have o_X_1 := X_w307.out.c (i := 1) rfl
        have o_X_2 := X_w307.out.c (i := 2) rfl
        go_wp2_with fail
        clear o_X_0 o_X_1 o_X_2
        go_at_call 32
        (with_reducible refine (hTR.out _ B_w307).mono ?_)
        rintro e w308 ⟨AB, cB, rfl, rB, hb308⟩
        have X_w308 := Lib.hid (X_w307.out.below hb308)
        have R_w308 := Lib.hid (R_w307.out.below hb308)
        have O_w308 := Lib.hid (O_w307.out.below hb308)
        have PA_w308 := Lib.hid (PA_w307.out.below hb308)
        have S_w308 := Lib.hid (S_w307.out.below hb308)
        have T_w308 := Lib.hid (T_w307.out.below hb308)
        have PB_w308 := Lib.hid (rB)
        have z0_w308 : w.heap.size < w308.heap.size := Nat.lt_of_lt_of_le z0_w307 hb308.size
        have B_w308 := bt B_w307 hb308
        clear X_w307 R_w307 O_w307 PA_w307 S_w307 T_w307 z0_w307 B_w307 hb308
        have o_X_0 := X_w308.out.c (i := 0) rfl
        have o_X_1 := X_w308.out.c (i := 1) rfl
        have o_X_2 := X_w308.out.c (i := 2) rfl
        go_wp2_with fail
        clear o_X_0 o_X_1 o_X_2
        go_at_call 31
        (with_reducible refine (r_same PA_w308.out PB_w308.out hPl.out (decide_eq_true rfl)).mono ?_)
        rintro e w309 ⟨rfl, hb309⟩
        have X_w309 := Lib.hid (X_w308.out.below hb309)
        have R_w309 := Lib.hid (R_w308.out.below hb309)
        have O_w309 := Lib.hid (O_w308.out.below hb309)
        have PA_w309 := Lib.hid (PA_w308.out.below hb309)
        have S_w309 := Lib.hid (S_w308.out.below hb309)
        have T_w309 := Lib.hid (T_w308.out.below hb309)
        have PB_w309 := Lib.hid (PB_w308.out.below hb309)
        have z0_w309 : w.heap.size < w309.heap.size := Nat.lt_of_lt_of_le z0_w308 hb309.size
        have B_w309 := bt B_w308 hb309
        clear X_w308 R_w308 O_w308 PA_w308 S_w308 T_w308 PB_w308 z0_w308 B_w308 hb309
        have o_X_0 := X_w309.out.c (i := 0) rfl
        have o_X_1 := X_w309.out.c (i := 1) rfl
        have o_X_2 := X_w309.out.c (i := 2) rfl
        go_wp2_with fail
        clear o_X_0 o_X_1 o_X_2
        go_at_call 31
        (with_reducible refine (r_same S_w309.out T_w309.out hSl8.out (decide_eq_true rfl)).mono ?_)
        rintro e w310 ⟨rfl, hb310⟩
        have X_w310 := Lib.hid (X_w309.out.below hb310)
        have R_w310 := Lib.hid (R_w309.out.below hb310)
        have O_w310 := Lib.hid (O_w309.out.below hb310)
        have PA_w310 := Lib.hid (PA_w309.out.below hb310)
        have S_w310 := Lib.hid (S_w309.out.below hb310)
        have T_w310 := Lib.hid (T_w309.out.below hb310)
        have PB_w310 := Lib.hid (PB_w309.out.below hb310)
        have z0_w310 : w.heap.size < w310.heap.size := Nat.lt_of_lt_of_le z0_w309 hb310.size
        have B_w310 := bt B_w309 hb310
        clear X_w309 R_w309 O_w309 PA_w309 S_w309 T_w309 PB_w309 z0_w309 B_w309 hb310
        have o_X_0 := X_w310.out.c (i := 0) rfl
        have o_X_1 := X_w310.out.c (i := 1) rfl
        have o_X_2 := X_w310.out.c (i := 2) rfl
        go_wp2_with fail
        clear o_X_0 o_X_1 o_X_2
        go_at_call 33
        (with_reducible refine (hTC.out _ B_w310).mono ?_)
        rintro e w311 ⟨rfl, hb311⟩
        have X_w311 := Lib.hid (X_w310.out.below hb311)
        have R_w311 := Lib.hid (R_w310.out.below hb311)
        have O_w311 := Lib.hid (O_w310.out.below hb311)
        have PA_w311 := Lib.hid (PA_w310.out.below hb311)
        have S_w311 := Lib.hid (S_w310.out.below hb311)
        have T_w311 := Lib.hid (T_w310.out.below hb311)
        have PB_w311 := Lib.hid (PB_w310.out.below hb311)
        have z0_w311 : w.heap.size < w311.heap.size := Nat.lt_of_lt_of_le z0_w310 hb311.size
        have B_w311 := bt B_w310 hb311
        clear X_w310 R_w310 O_w310 PA_w310 S_w310 T_w310 PB_w310 z0_w310 B_w310 hb311
        have o_X_0 := X_w311.out.c (i := 0) rfl
        have o_X_1 := X_w311.out.c (i := 1) rfl
        have o_X_2 := X_w311.out.c (i := 2) rfl
        go_wp2_with fail
        clear o_X_0 o_X_1 o_X_2
        go_at_call 29
        (with_reducible refine (o_alive17 _).mono ?_)
        rintro e w312 ⟨rfl, hb312⟩
        have X_w312 := Lib.hid (X_w311.out.below hb312)
        have R_w312 := Lib.hid (R_w311.out.below hb312)
        have O_w312 := Lib.hid (O_w311.out.below hb312)
        have PA_w312 := Lib.hid (PA_w311.out.below hb312)
        have S_w312 := Lib.hid (S_w311.out.below hb312)
        have T_w312 := Lib.hid (T_w311.out.below hb312)
        have PB_w312 := Lib.hid (PB_w311.out.below hb312)
        have z0_w312 : w.heap.size < w312.heap.size := Nat.lt_of_lt_of_le z0_w311 hb312.size
        have B_w312 := bt B_w311 hb312
        clear X_w311 R_w311 O_w311 PA_w311 S_w311 T_w311 PB_w311 z0_w311 B_w311 hb312
        have o_X_0 := X_w312.out.c (i := 0) rfl
        have o_X_1 := X_w312.out.c (i := 1) rfl
        have o_X_2 := X_w312.out.c (i := 2) rfl
        go_wp2_with fail
        clear o_X_0 o_X_1 o_X_2
        go_at_call 28
        (with_reducible refine (o_in_b t0 m.segs hin2.out _).mono ?_)
        rintro e w313 ⟨rfl, hb313⟩
        have X_w313 := Lib.hid (X_w312.out.below hb313)
        have R_w313 := Lib.hid (R_w312.out.below hb313)
        have O_w313 := Lib.hid (O_w312.out.below hb313)
        have PA_w313 := Lib.hid (PA_w312.out.below hb313)
        have S_w313 := Lib.hid (S_w312.out.below hb313)
        have T_w313 := Lib.hid (T_w312.out.below hb313)
        have PB_w313 := Lib.hid (PB_w312.out.below hb313)
        have z0_w313 : w.heap.size < w313.heap.size := Nat.lt_of_lt_of_le z0_w312 hb313.size
        have B_w313 := bt B_w312 hb313
        clear X_w312 R_w312 O_w312 PA_w312 S_w312 T_w312 PB_w312 z0_w312 B_w312 hb313
        go_wp2_with fail
        go_ret
        exact ⟨rfl, bt B2.out B_w313⟩
    · have hw1 := Lib.hid (whyO_out hK.out (ss := [f0]) (x := f0) (by simp) hf)
      have hw2 := Lib.hid (whyO_out hK.out (ss := [f0, t0]) (x := f0) (by simp) hf)
      have hin := Lib.hid (show (decide (0 ≤ f0) && decide (f0 < m.segs)) = false by rw [← Bool.not_eq_true]; simp only [Bool.and_eq_true, decide_eq_true_eq]; exact hf)
      replace hf := Lib.hid hf
      have o_X_0 := X2.out.c (i := 0) rfl
      have o_X_1 := X2.out.c (i := 1) rfl
      have o_X_2 := X2.out.c (i := 2) rfl
      go_wp2_with fail
      clear o_X_0 o_X_1 o_X_2
      go_at_call 23
      (with_reducible refine (o_reach_no R2.out hsm.out O2.out hol.out hor.out f0 hw1.out (by decide)).mono ?_)
      rintro e w251 ⟨rfl, hb251⟩
      have X_w251 := Lib.hid (X2.out.below hb251)
      have R_w251 := Lib.hid (R2.out.below hb251)
      have O_w251 := Lib.hid (O2.out.below hb251)
      have z0_w251 : w.heap.size < w251.heap.size := Nat.lt_of_lt_of_le z2 hb251.size
      clear X2 R2 O2 z2
      have o_X_0 := X_w251.out.c (i := 0) rfl
      have o_X_1 := X_w251.out.c (i := 1) rfl
      have o_X_2 := X_w251.out.c (i := 2) rfl
      go_wp2_with fail
      clear o_X_0 o_X_1 o_X_2
      go_at_call 24
      (with_reducible refine (o_steps_no R_w251.out hsm.out O_w251.out hol.out hor.out f0 hw1.out (by decide)).mono ?_)
      rintro e w252 ⟨rfl, hb252⟩
      have X_w252 := Lib.hid (X_w251.out.below hb252)
      have R_w252 := Lib.hid (R_w251.out.below hb252)
      have O_w252 := Lib.hid (O_w251.out.below hb252)
      have z0_w252 : w.heap.size < w252.heap.size := Nat.lt_of_lt_of_le z0_w251 hb252.size
      have B_w252 := bt hb251 hb252
      clear X_w251 R_w251 O_w251 z0_w251 hb251 hb252
      have o_X_0 := X_w252.out.c (i := 0) rfl
      have o_X_1 := X_w252.out.c (i := 1) rfl
      have o_X_2 := X_w252.out.c (i := 2) rfl
      go_wp2_with fail
      clear o_X_0 o_X_1 o_X_2
      go_at_call 25
      (with_reducible refine (o_copies_no R_w252.out hsm.out O_w252.out hol.out hor.out f0 hw1.out (by decide)).mono ?_)
      rintro e w253 ⟨rfl, hb253⟩
      have X_w253 := Lib.hid (X_w252.out.below hb253)
      have R_w253 := Lib.hid (R_w252.out.below hb253)
      have O_w253 := Lib.hid (O_w252.out.below hb253)
      have z0_w253 : w.heap.size < w253.heap.size := Nat.lt_of_lt_of_le z0_w252 hb253.size
      have B_w253 := bt B_w252 hb253
      clear X_w252 R_w252 O_w252 z0_w252 B_w252 hb253
      have o_X_0 := X_w253.out.c (i := 0) rfl
      have o_X_1 := X_w253.out.c (i := 1) rfl
      have o_X_2 := X_w253.out.c (i := 2) rfl
      go_wp2_with fail
      clear o_X_0 o_X_1 o_X_2
      go_at_call 26
      (with_reducible refine (o_path_no R_w253.out hsm.out O_w253.out hol.out hor.out f0 t0 hw2.out (by decide)).mono ?_)
      rintro e w254 ⟨rfl, hb254⟩
      have X_w254 := Lib.hid (X_w253.out.below hb254)
      have R_w254 := Lib.hid (R_w253.out.below hb254)
      have O_w254 := Lib.hid (O_w253.out.below hb254)
      have z0_w254 : w.heap.size < w254.heap.size := Nat.lt_of_lt_of_le z0_w253 hb254.size
      have B_w254 := bt B_w253 hb254
      clear X_w253 R_w253 O_w253 z0_w253 B_w253 hb254
      have o_X_0 := X_w254.out.c (i := 0) rfl
      have o_X_1 := X_w254.out.c (i := 1) rfl
      have o_X_2 := X_w254.out.c (i := 2) rfl
      go_wp2_with fail
      clear o_X_0 o_X_1 o_X_2
      go_at_call 27
      (with_reducible refine (t_may R_w254.out hsm.out O_w254.out hol.out hor.out hk.out).mono ?_)
      rintro e w255 ⟨rfl, hb255⟩
      have X_w255 := Lib.hid (X_w254.out.below hb255)
      have R_w255 := Lib.hid (R_w254.out.below hb255)
      have O_w255 := Lib.hid (O_w254.out.below hb255)
      have z0_w255 : w.heap.size < w255.heap.size := Nat.lt_of_lt_of_le z0_w254 hb255.size
      have B_w255 := bt B_w254 hb255
      clear X_w254 R_w254 O_w254 z0_w254 B_w254 hb255
      have o_X_0 := X_w255.out.c (i := 0) rfl
      have o_X_1 := X_w255.out.c (i := 1) rfl
      have o_X_2 := X_w255.out.c (i := 2) rfl
      go_wp2_with fail
      clear o_X_0 o_X_1 o_X_2
      go_at_call 28
      (with_reducible refine (o_in_b f0 m.segs hin.out _).mono ?_)
      rintro e w256 ⟨rfl, hb256⟩
      have X_w256 := Lib.hid (X_w255.out.below hb256)
      have R_w256 := Lib.hid (R_w255.out.below hb256)
      have O_w256 := Lib.hid (O_w255.out.below hb256)
      have z0_w256 : w.heap.size < w256.heap.size := Nat.lt_of_lt_of_le z0_w255 hb256.size
      have B_w256 := bt B_w255 hb256
      clear X_w255 R_w255 O_w255 z0_w255 B_w255 hb256
      have o_X_0 := X_w256.out.c (i := 0) rfl
      have o_X_1 := X_w256.out.c (i := 1) rfl
      have o_X_2 := X_w256.out.c (i := 2) rfl
      go_wp2_with fail
      clear o_X_0 o_X_1 o_X_2
      go_at_call 29
      (with_reducible refine (o_alive17 _).mono ?_)
      rintro e w257 ⟨rfl, hb257⟩
      have X_w257 := Lib.hid (X_w256.out.below hb257)
      have R_w257 := Lib.hid (R_w256.out.below hb257)
      have O_w257 := Lib.hid (O_w256.out.below hb257)
      have z0_w257 : w.heap.size < w257.heap.size := Nat.lt_of_lt_of_le z0_w256 hb257.size
      have B_w257 := bt B_w256 hb257
      clear X_w256 R_w256 O_w256 z0_w256 B_w256 hb257
      go_wp2_with fail
      go_ret
      exact ⟨rfl, bt B2.out B_w257⟩
theorem tells_go (v r : Value) (f0 t0 : Int) {w : World} (hv : InLan w v) (hr : InRows w r) (_h1 : (Lit.int .i64 f0).wf = true) (_h2 : (Lit.int .i64 t0).wf = true) : Calls Try.prog 5 #[v, r, .int .i64 f0, .int .i64 t0] w (True1 w) := by
  obtain ⟨l, A, c, B, d, rfl, hl⟩ := hv
  obtain ⟨O, C, e, rfl, hR⟩ := hr
  exact tells_law hl hR f0 t0
end Go.Proofs.Ytgcmklliafcffaa.LanP
