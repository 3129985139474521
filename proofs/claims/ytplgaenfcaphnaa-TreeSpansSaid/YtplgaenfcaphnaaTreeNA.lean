/-
  TreeNear.
-/
import Derived.Test.YtplgaenfcaphnaaTreeY
import Derived.Test.YtplgaenfcaphnaaLanO
import Derived.BigRegion
import Derived.Deep.LoopGhost
namespace Go.Proofs.Ytplgaenfcaphnaa.LanP
open Go.RowKit Go.Sort Go.Proofs.Ytplgaenfcaphnaa.SliceP Go.Proofs.Ytplgaenfcaphnaa.BoxP
open Go.Proofs.Ytplgaenfcaphnaa.IntP (RowI SlI OwnI)
open Go.Proofs.Ytplgaenfcaphnaa.BoolP (RowB SlB OwnB)
open Go.Proofs.Ytplgaenfcaphnaa.MacP (arr_out)
set_option linter.unusedVariables false
set_option maxRecDepth 100000
theorem tmod_lt (n m : Int) (h0 : 0 < m) : -m < n.tmod m ∧ n.tmod m < m := by
  have := Int.natAbs_tmod n m
  have h3 : (n.tmod m).natAbs < m.natAbs := by rw [this]; exact Nat.mod_lt _ (by omega)
  omega
theorem alive_is (w : World) : Calls Try.prog 13 #[] w fun e w' => e = .returned (.bool true) ∧ Below w.heap.size w w' := o_alive w
theorem near_fact {l : L} (ho : l.ok = true) {a b : Nat} (ha : a < l.plans.length) (hb : b < l.plans.length) (hab : a ≠ b) {x y : Lk} (hx : x ∈ (pl l a).ports) (hy : y ∈ (pl l b).ports) (hxu : x.up = true) (hyu : y.up = true) (hs : x.seg = y.seg) :
    (l.best a).1 = (l.best b).1 ∧ (l.best a).2 ≤ (l.best b).2 + x.cost ∧ (l.best b).2 ≤ (l.best a).2 + y.cost := by
  obtain ⟨i, hi, rfl⟩ := mem_prt hx
  obtain ⟨j, hj, rfl⟩ := mem_prt hy
  have hp : (a, i) ∈ onS l (prt l a i).seg := mem_onS.2 ⟨ha, hi, hxu, rfl⟩
  have hq : (b, j) ∈ onS l (prt l a i).seg := mem_onS.2 ⟨hb, hj, hyu, hs.symm⟩
  have hF := ok_fine ho
  have h1 := root_same hF hp hq
  have h2 := best_step hF.cost ha (ed_of hp hq (Ne.symm hab))
  have h3 := best_step hF.cost hb (ed_of hq hp hab)
  unfold bl at h2 h3
  simp only at h1 h2 h3
  refine ⟨h1, ?_, ?_⟩ <;> omega
theorem pl_get {l : L} {b : Nat} (hb : b < l.plans.length) : l.plans[b]? = some (pl l b) := by unfold pl; rw [List.getD_eq_getElem?_getD, List.getElem?_eq_getElem hb]; rfl
theorem why_some {l : L} {p e : Int} (h : ¬ (0 ≤ p ∧ p < e)) : ∃ er, whyP l p e = er ∧ er ≠ 0 := by
  unfold whyP
  rw [if_neg h]
  split <;> first | exact ⟨3, rfl, by decide⟩ | exact ⟨1, rfl, by decide⟩
theorem why_bad {l : L} (h : l.ok = false) (p e : Int) : whyP l p e = 1 := by unfold whyP; rw [if_neg (by rw [h]; simp)]
set_option maxHeartbeats 16000000 in
theorem near_law {l : L} {A : Option Addr} {c : Nat} {B : Option Addr} {d : Nat} {w : World} (hr : LanR w l A c B d) (a0 b0 : Int) : Calls Try.prog 6 #[lv l A c B d, .int .i64 a0, .int .i64 b0] w (True1 w) := by
  obtain ⟨w0, hw0, X0, R0, B0⟩ := new3 w hr
  have hF := Lib.hid (o_few hr B0)
  have hsm := Lib.hid (few_small l)
  replace X0 := Lib.hid X0
  replace B0 := Lib.hid B0
  clear hr R0
  go_enter Try.func6, Try.ntmps6
  go_upto_region 1 with fail
  rw [← hw0]
  clear hw0
  have x0 := X0.out.c (i := 0) rfl
  have x1 := X0.out.c (i := 1) rfl
  have x2 := X0.out.c (i := 2) rfl
  have zz := X0.out.lt
  go_wp2_with fail
  go_at_call 7
  (with_reducible refine hF.out.mono ?_)
  rintro e w1 ⟨A1, c1, rfl, hb1, hK⟩
  obtain ⟨m, hm⟩ : ∃ m, l.few = m := ⟨_, rfl⟩
  rw [hm] at hK hsm ⊢
  replace hm := Lib.hid hm
  clear x0 x1 x2 zz
  have X1 := Lib.hid (X0.out.below hb1)
  have x0 := X1.out.c (i := 0) rfl
  have x1 := X1.out.c (i := 1) rfl
  have x2 := X1.out.c (i := 2) rfl
  have f0 := X1.out.f 0
  have f1 := X1.out.f 1
  have f2 := X1.out.f 2
  have zz := X1.out.lt
  have B1 := Lib.hid (bt B0.out hb1)
  obtain ⟨w2, hw2⟩ : ∃ W, W = ((w1.setCell ⟨w.heap.size, 0, none⟩ (.int .i64 m.segs)).setCell ⟨w.heap.size, 1, none⟩ (.slice A1 m.plans.length c1)).setCell ⟨w.heap.size, 2, none⟩ (.slice B m.hosts.length d) := ⟨_, rfl⟩
  have X2 := Lib.hid (show Bx w2 w.heap.size 25 #[.int .i64 m.segs, .slice A1 m.plans.length c1, .slice B m.hosts.length d] by rw [hw2]; exact Bx.three X1.out)
  have B2 := Lib.hid (show Below w.heap.size w w2 by rw [hw2]; exact below3 B1.out (Nat.le_refl _) _ _ _)
  have R2 := Lib.hid (hK w.heap.size w2 X0.out.lt (by rw [hw2]; exact ((setCell_grown _ _ _ _).trans (setCell_grown _ _ _ _)).trans (setCell_grown _ _ _ _)) B2.out)
  go_upto_region 2 with fail
  rw [← hw2]
  have z2 := X2.out.lt
  clear hw2 hb1 hK x0 x1 x2 f0 f1 f2 zz X0 X1 B0 B1 hF
  by_cases h0 : m.plans.length = 0
  · obtain ⟨er, her, hern⟩ := why_some (l := m) (p := 0) (e := m.plans.length) (by omega)
    have hbn := Lib.hid (o_best_no R2.out hsm.out 0 her hern)
    have hne : (er != 0) = true := by simpa using hern
    have hz : ((m.plans.length : Int) == 0) = true := by rw [h0]; rfl
    replace her := Lib.hid her
    replace hern := Lib.hid hern
    replace h0 := Lib.hid h0
    have o_X_0 := X2.out.c (i := 0) rfl
    have o_X_1 := X2.out.c (i := 1) rfl
    have o_X_2 := X2.out.c (i := 2) rfl
    go_wp2_with fail
    clear o_X_0 o_X_1 o_X_2
    go_at_call 8
    (with_reducible refine (hbn.out).mono ?_)
    rintro e w101 ⟨rfl, hb101⟩
    have X_w101 := Lib.hid (X2.out.below hb101)
    have R_w101 := Lib.hid (R2.out.below hb101)
    have z0_w101 : w.heap.size < w101.heap.size := Nat.lt_of_lt_of_le z2 hb101.size
    clear X2 R2 z2
    have o_X_0 := X_w101.out.c (i := 0) rfl
    have o_X_1 := X_w101.out.c (i := 1) rfl
    have o_X_2 := X_w101.out.c (i := 2) rfl
    go_wp2_with fail
    clear o_X_0 o_X_1 o_X_2
    go_at_call 13
    (with_reducible refine (alive_is _).mono ?_)
    rintro e w102 ⟨rfl, hb102⟩
    have X_w102 := Lib.hid (X_w101.out.below hb102)
    have R_w102 := Lib.hid (R_w101.out.below hb102)
    have z0_w102 : w.heap.size < w102.heap.size := Nat.lt_of_lt_of_le z0_w101 hb102.size
    have B_w102 := bt hb101 hb102
    clear X_w101 R_w101 z0_w101 hb101 hb102
    go_wp2_with fail
    go_ret
    exact ⟨rfl, bt B2.out B_w102⟩
  · have hz : ((m.plans.length : Int) == 0) = false := by simpa using h0
    have hn8 := hsm.out.plans
    have hn1 : 1 ≤ m.plans.length := by omega
    have hc64 : (m.plans.length : Int) ≤ 8 := by omega
    have ta := tmod_lt a0 m.plans.length (by omega)
    have tb := tmod_lt b0 m.plans.length (by omega)

    have o_X_0 := X2.out.c (i := 0) rfl
    have o_X_1 := X2.out.c (i := 1) rfl
    have o_X_2 := X2.out.c (i := 2) rfl
    go_upto_region 5 with fail
    clear o_X_0 o_X_1 o_X_2
    have K_X_0 := cell_regrown (X2.out.c (i := 0) rfl)
    have K_X_1 := cell_regrown (X2.out.c (i := 1) rfl)
    have K_X_2 := cell_regrown (X2.out.c (i := 2) rfl)
    refine wp_region_quiet_below (by kernel_rfl) (by kernel_rfl) ?_
    repeat (first | go_big_quiet_step (fail) | quiet_step (fail))
    refine wpQuiet_nil ?_
    intro _ hw'
    obtain ⟨⟨dq, osq⟩, hw''⟩ := hw'
    subst hw''
    have hqw201 := below_regrown w2 dq osq
    clear K_X_0 K_X_1 K_X_2
    generalize Go.Sort.grow (redrawn w2 dq) osq = w201 at *
    have X_w201 := Lib.hid (X2.out.below hqw201)
    have R_w201 := Lib.hid (R2.out.below hqw201)
    have z0_w201 : w.heap.size < w201.heap.size := Nat.lt_of_lt_of_le z2 hqw201.size
    clear X2 R2 z2
    have ma : 0 ≤ (a0.tmod m.plans.length + m.plans.length) % m.plans.length ∧ (a0.tmod m.plans.length + m.plans.length) % m.plans.length < m.plans.length := ⟨Int.emod_nonneg _ (by omega), Int.emod_lt_of_pos _ (by omega)⟩
    have mb : 0 ≤ (b0.tmod m.plans.length + m.plans.length) % m.plans.length ∧ (b0.tmod m.plans.length + m.plans.length) % m.plans.length < m.plans.length := ⟨Int.emod_nonneg _ (by omega), Int.emod_lt_of_pos _ (by omega)⟩
    generalize (a0.tmod m.plans.length + m.plans.length) % m.plans.length = ai at *
    generalize (b0.tmod m.plans.length + m.plans.length) % m.plans.length = bi at *
    obtain ⟨a, ha9⟩ : ∃ a : Nat, ai = (a : Int) := ⟨ai.toNat, by omega⟩
    obtain ⟨b, hb9⟩ : ∃ b : Nat, bi = (b : Int) := ⟨bi.toNat, by omega⟩
    subst ha9; subst hb9
    have han : a < m.plans.length := by omega
    have hbn : b < m.plans.length := by omega
    have hal := Lib.hid han
    have hbl := Lib.hid hbn
    have han2 : (a : Int) < (m.plans.length : Int) := by omega
    have hbn2 : (b : Int) < (m.plans.length : Int) := by omega
    clear ta tb ma mb hz
    cases ho : m.ok
    · have hA := Lib.hid (why_bad ho a m.plans.length)
      have hB := Lib.hid (why_bad ho b m.plans.length)
      replace ho := Lib.hid ho
      have o_X_0 := X_w201.out.c (i := 0) rfl
      have o_X_1 := X_w201.out.c (i := 1) rfl
      have o_X_2 := X_w201.out.c (i := 2) rfl
      go_wp2_with fail
      clear o_X_0 o_X_1 o_X_2
      go_at_call 8
      (with_reducible refine (o_best_no R_w201.out hsm.out a hA.out (by decide)).mono ?_)
      rintro e w202 ⟨rfl, hb202⟩
      have X_w202 := Lib.hid (X_w201.out.below hb202)
      have R_w202 := Lib.hid (R_w201.out.below hb202)
      have z0_w202 : w.heap.size < w202.heap.size := Nat.lt_of_lt_of_le z0_w201 hb202.size
      have B_w202 := bt hqw201 hb202
      clear X_w201 R_w201 z0_w201 hqw201 hb202
      have o_X_0 := X_w202.out.c (i := 0) rfl
      have o_X_1 := X_w202.out.c (i := 1) rfl
      have o_X_2 := X_w202.out.c (i := 2) rfl
      go_wp2_with fail
      clear o_X_0 o_X_1 o_X_2
      go_at_call 8
      (with_reducible refine (o_best_no R_w202.out hsm.out b hB.out (by decide)).mono ?_)
      rintro e w203 ⟨rfl, hb203⟩
      have X_w203 := Lib.hid (X_w202.out.below hb203)
      have R_w203 := Lib.hid (R_w202.out.below hb203)
      have z0_w203 : w.heap.size < w203.heap.size := Nat.lt_of_lt_of_le z0_w202 hb203.size
      have B_w203 := bt B_w202 hb203
      clear X_w202 R_w202 z0_w202 B_w202 hb203
      have o_X_0 := X_w203.out.c (i := 0) rfl
      have o_X_1 := X_w203.out.c (i := 1) rfl
      have o_X_2 := X_w203.out.c (i := 2) rfl
      go_wp2_with fail
      clear o_X_0 o_X_1 o_X_2
      go_at_call 13
      (with_reducible refine (alive_is _).mono ?_)
      rintro e w204 ⟨rfl, hb204⟩
      have X_w204 := Lib.hid (X_w203.out.below hb204)
      have R_w204 := Lib.hid (R_w203.out.below hb204)
      have z0_w204 : w.heap.size < w204.heap.size := Nat.lt_of_lt_of_le z0_w203 hb204.size
      have B_w204 := bt B_w203 hb204
      clear X_w203 R_w203 z0_w203 B_w203 hb204
      go_wp2_with fail
      go_ret
      exact ⟨rfl, bt B2.out B_w204⟩
    · have HO := Lib.hid ho
      clear ho
      have o_X_0 := X_w201.out.c (i := 0) rfl
      have o_X_1 := X_w201.out.c (i := 1) rfl
      have o_X_2 := X_w201.out.c (i := 2) rfl
      go_wp2_with fail
      clear o_X_0 o_X_1 o_X_2
      go_at_call 8
      (with_reducible refine (o_best_ok R_w201.out hsm.out HO.out hal.out).mono ?_)
      rintro e w301 ⟨rfl, hb301⟩
      have X_w301 := Lib.hid (X_w201.out.below hb301)
      have R_w301 := Lib.hid (R_w201.out.below hb301)
      have z0_w301 : w.heap.size < w301.heap.size := Nat.lt_of_lt_of_le z0_w201 hb301.size
      have B_w301 := bt hqw201 hb301
      clear X_w201 R_w201 z0_w201 hqw201 hb301
      have o_X_0 := X_w301.out.c (i := 0) rfl
      have o_X_1 := X_w301.out.c (i := 1) rfl
      have o_X_2 := X_w301.out.c (i := 2) rfl
      go_wp2_with fail
      clear o_X_0 o_X_1 o_X_2
      go_at_call 8
      (with_reducible refine (o_best_ok R_w301.out hsm.out HO.out hbl.out).mono ?_)
      rintro e w302 ⟨rfl, hb302⟩
      have X_w302 := Lib.hid (X_w301.out.below hb302)
      have R_w302 := Lib.hid (R_w301.out.below hb302)
      have z0_w302 : w.heap.size < w302.heap.size := Nat.lt_of_lt_of_le z0_w301 hb302.size
      have B_w302 := bt B_w301 hb302
      clear X_w301 R_w301 z0_w301 B_w301 hb302
      obtain ⟨⟨r1, k1⟩, hka⟩ : ∃ k, m.best a = k := ⟨_, rfl⟩
      obtain ⟨⟨r2, k2⟩, hkb⟩ : ∃ k, m.best b = k := ⟨_, rfl⟩
      rw [hka, hkb]
      have bda := best_bd HO.out hal.out
      have bdb := best_bd HO.out hbl.out
      have hzz := best_zero (ok_fine HO.out).cost hal.out
      rw [hka] at bda hzz
      rw [hkb] at bdb
      simp only at bda bdb hzz
      replace hka := Lib.hid hka
      replace hkb := Lib.hid hkb
      replace hzz := Lib.hid hzz
      have o_X_0 := X_w302.out.c (i := 0) rfl
      have o_X_1 := X_w302.out.c (i := 1) rfl
      have o_X_2 := X_w302.out.c (i := 2) rfl
      go_wp2_with fail
      clear o_X_0 o_X_1 o_X_2
      go_at_call 13
      (with_reducible refine (alive_is _).mono ?_)
      rintro e w303 ⟨rfl, hb303⟩
      have X_w303 := Lib.hid (X_w302.out.below hb303)
      have R_w303 := Lib.hid (R_w302.out.below hb303)
      have z0_w303 : w.heap.size < w303.heap.size := Nat.lt_of_lt_of_le z0_w302 hb303.size
      have B_w303 := bt B_w302 hb303
      clear X_w302 R_w302 z0_w302 B_w302 hb303
      have hpa := pl_get hal.out
      have hpb := pl_get hbl.out
      obtain ⟨p, hp⟩ : ∃ p, pl m a = p := ⟨_, rfl⟩
      obtain ⟨q, hq⟩ : ∃ q, pl m b = q := ⟨_, rfl⟩
      rw [hp] at hpa hzz
      rw [hq] at hpb
      have hpl := hsm.out.ports p (List.mem_of_getElem? hpa)
      have hql := hsm.out.ports q (List.mem_of_getElem? hpb)
      have hpc := Lib.hid (ok_lk HO.out p (List.mem_of_getElem? hpa))
      have hqc := Lib.hid (ok_lk HO.out q (List.mem_of_getElem? hpb))
      have hnf := Lib.hid (fun hab (x y : Lk) (hx : x ∈ p.ports) (hy : y ∈ q.ports) => near_fact HO.out hal.out hbl.out hab (x := x) (y := y) (by rw [hp]; exact hx) (by rw [hq]; exact hy))
      rw [hka.out, hkb.out] at hnf
      obtain ⟨bP, oP, A5, c5, hAA, hbP, p0, p1, hrow⟩ := RowP.at_ R_w303.out.plans hpa
      obtain ⟨bQ, oQ, A6, c6, hQQ, hbQ, q0, q1, hrowq⟩ := RowP.at_ R_w303.out.plans hpb
      subst hAA
      cases hQQ
      have HR := Lib.hid hrow
      have HQ := Lib.hid hrowq
      have P0 := Lib.hid p0
      have P1 := Lib.hid p1
      have Q1 := Lib.hid q1
      have HBP := Lib.hid hbP
      replace hp := Lib.hid hp
      replace hq := Lib.hid hq
      replace hpa := Lib.hid hpa
      replace hpb := Lib.hid hpb
      have BB := Lib.hid B_w303
      clear B_w303 hrow hrowq p0 q0 q1
      have o_X_0 := X_w303.out.c (i := 0) rfl
      have o_X_1 := X_w303.out.c (i := 1) rfl
      have o_X_2 := X_w303.out.c (i := 2) rfl
      go_wp2_with fail
      clear o_X_0 o_X_1 o_X_2
      clear p1 hbP
      go_loopw [98] (fun i wr => ∃ k : Nat, k ≤ p.ports.length ∧ i = .int .i64 k ∧ Below w303.heap.size w303 wr) (fun i _ => p.ports.length - (intOf i).toNat)
      case atStart => exact ⟨0, by omega, rfl, Below.refl _ _⟩
      case round =>
        obtain ⟨k, hk, rfl, hb⟩ := hrel
        obtain ⟨wo, hwo⟩ : ∃ W, W = wr := ⟨_, rfl⟩
        subst hwo
        by_cases hkn : k < p.ports.length
        · have hkl : (k : Int) < (p.ports.length : Int) := by omega
          obtain ⟨x, hx⟩ : ∃ x, p.ports[k]? = some x := ⟨_, List.getElem?_eq_getElem hkn⟩
          obtain ⟨bS8, oS8, hAS8, hbS8, q8_0, q8_1, q8_2⟩ := Row.kat (HR.out.below hb) hx
          subst hAS8
          obtain ⟨w8, hw8⟩ : ∃ W, W = wo.alloc (.cells #[.int .i64 x.seg, .int .i64 x.cost, .bool x.up] 63) := ⟨_, rfl⟩
          have bb8 : Below wo.heap.size wo w8 := by rw [hw8]; exact (Below.refl _ _).alloc (Nat.le_refl _) _
          have b8 := Lib.hid (bt hb bb8)
          have X8 := Lib.hid (show Bx w8 wo.heap.size 63 #[.int .i64 x.seg, .int .i64 x.cost, .bool x.up] by rw [hw8]; exact Bx.new _ _ _ rfl)
          have hxc := hpc.out x (List.mem_of_getElem? hx)
          have hnx := Lib.hid (fun hab y hy => hnf.out hab x y (List.mem_of_getElem? hx) hy)
          replace hx := Lib.hid hx
          clear hb bb8
          go_upto_region 15 with fail
          rw [← hw8]
          clear hw8 q8_0 q8_1 q8_2 hbS8
          have o8_0 := X8.out.c (i := 0) rfl
          have o8_1 := X8.out.c (i := 1) rfl
          have o8_2 := X8.out.c (i := 2) rfl
          have zz8 := X8.out.lt
          have XB := Lib.hid (X_w303.out.below b8.out)
          have HQ8 := Lib.hid (HQ.out.below b8.out)
          have q1 := cell_below b8.out HBP.out Q1.out
          have hbP := Nat.lt_of_lt_of_le HBP.out b8.out.size
          have o_0 := XB.out.c (i := 0) rfl
          have o_1 := XB.out.c (i := 1) rfl
          have o_2 := XB.out.c (i := 2) rfl
          go_wp2_with fail
          clear q1 hbP o_0 o_1 o_2 o8_0 o8_1 o8_2 zz8
          go_loopw [109] (fun i wr => ∃ j : Nat, j ≤ q.ports.length ∧ i = .int .i64 j ∧ Below w8.heap.size w8 wr) (fun i _ => q.ports.length - (intOf i).toNat)
          case atStart => exact ⟨0, by omega, rfl, Below.refl _ _⟩
          case round =>
            obtain ⟨j, hj, rfl, hbi⟩ := hrel
            obtain ⟨wi, hwi⟩ : ∃ W, W = wr := ⟨_, rfl⟩
            subst hwi
            by_cases hjn : j < q.ports.length
            · have hjl : (j : Int) < (q.ports.length : Int) := by omega
              obtain ⟨y, hy⟩ : ∃ y, q.ports[j]? = some y := ⟨_, List.getElem?_eq_getElem hjn⟩
              obtain ⟨bS9, oS9, hAS9, hbS9, q9_0, q9_1, q9_2⟩ := Row.kat (HQ8.out.below hbi) hy
              subst hAS9
              obtain ⟨w9, hw9⟩ : ∃ W, W = wi.alloc (.cells #[.int .i64 y.seg, .int .i64 y.cost, .bool y.up] 63) := ⟨_, rfl⟩
              have bb9 : Below wi.heap.size wi w9 := by rw [hw9]; exact (Below.refl _ _).alloc (Nat.le_refl _) _
              have b9 := Lib.hid (bt hbi bb9)
              have X9 := Lib.hid (show Bx w9 wi.heap.size 63 #[.int .i64 y.seg, .int .i64 y.cost, .bool y.up] by rw [hw9]; exact Bx.new _ _ _ rfl)
              have hyc := hqc.out y (List.mem_of_getElem? hy)
              have hny := Lib.hid (fun hab => hnx.out hab y (List.mem_of_getElem? hy))
              replace hy := Lib.hid hy
              clear hbi bb9
              go_upto_region 18 with fail
              rw [← hw9]
              clear hw9 q9_0 q9_1 q9_2 hbS9
              have o9_0 := X9.out.c (i := 0) rfl
              have o9_1 := X9.out.c (i := 1) rfl
              have o9_2 := X9.out.c (i := 2) rfl
              have zz9 := X9.out.lt
              have X89 := Lib.hid (X8.out.below b9.out)
              have e0 := X89.out.c (i := 0) rfl
              have e1 := X89.out.c (i := 1) rfl
              have e2 := X89.out.c (i := 2) rfl
              have ez := X89.out.lt
              obtain ⟨u, hxu⟩ : ∃ u, x.up = u := ⟨_, rfl⟩
              obtain ⟨v, hyu⟩ : ∃ v, y.up = v := ⟨_, rfl⟩
              rw [hxu] at e2
              rw [hyu] at o9_2
              replace hxu := Lib.hid hxu
              replace hyu := Lib.hid hyu
              by_cases hab : a = b
              · have hq0 : ((a : Int) != (b : Int)) = false := by rw [hab]; simp
                replace hab := Lib.hid hab
                go_wp2_with fail
                go_roundw
                case rel => exact ⟨j + 1, by omega, by go_num, b9.out⟩
                case measure => simp [intOf]; omega
              · have hq0 : ((a : Int) != (b : Int)) = true := by simp; omega
                replace hab := Lib.hid hab
                cases u
                · skip
                  go_wp2_with fail
                  go_roundw
                  case rel => exact ⟨j + 1, by omega, by go_num, b9.out⟩
                  case measure => simp [intOf]; omega
                · cases v
                  · skip
                    go_wp2_with fail
                    go_roundw
                    case rel => exact ⟨j + 1, by omega, by go_num, b9.out⟩
                    case measure => simp [intOf]; omega
                  · by_cases hsg : x.seg = y.seg
                    · obtain ⟨f1, f2, f3⟩ := hny.out hab.out hxu.out hyu.out hsg
                      have g0 : (x.seg == y.seg) = true := by simpa using hsg
                      have g1 : (r1 != r2) = false := by simpa using f1
                      have g2 : wrap64 (k2 + x.cost) = k2 + x.cost := IntWalk.wrap64_in _ (by omega)
                      have g3 : wrap64 (k1 + y.cost) = k1 + y.cost := IntWalk.wrap64_in _ (by omega)
                      replace f1 := Lib.hid f1
                      replace hsg := Lib.hid hsg
                      go_wp2_with fail
                      go_roundw
                      case rel => exact ⟨j + 1, by omega, by go_num, b9.out⟩
                      case measure => simp [intOf]; omega
                    · have g0 : (x.seg == y.seg) = false := by simpa using hsg
                      replace hsg := Lib.hid hsg
                      go_wp2_with fail
                      go_roundw
                      case rel => exact ⟨j + 1, by omega, by go_num, b9.out⟩
                      case measure => simp [intOf]; omega
            · obtain rfl : j = q.ports.length := by omega
              have b9 := Lib.hid (bt b8.out hbi)
              clear hbi
              go_wp2_with fail
              go_roundw
              case rel => exact ⟨k + 1, by omega, by go_num, b9.out⟩
              case measure => simp [intOf]; omega
        · obtain rfl : k = p.ports.length := by omega
          have XE := Lib.hid (X_w303.out.below hb)
          have BE := Lib.hid (bt B2.out (bt BB.out hb))
          have x0 := XE.out.c (i := 0) rfl
          have x1 := XE.out.c (i := 1) rfl
          have x2 := XE.out.c (i := 2) rfl
          have zx := XE.out.lt
          have p0 := cell_below hb HBP.out P0.out
          have hbP := Nat.lt_of_lt_of_le HBP.out hb.size
          clear hb
          cases hv : (k1 == 0)
          · have hw0 : (r1 == p.id) = false := by
              have h1 : ¬ k1 = 0 := by simpa using hv
              have h2 := mt hzz.out.2 h1
              simpa using h2
            go_wp2_with fail
            go_ret
            exact ⟨rfl, BE.out⟩
          · have hw0 : (r1 == p.id) = true := by
              have h1 : k1 = 0 := by simpa using hv
              simpa using hzz.out.1 h1
            go_wp2_with fail
            go_ret
            exact ⟨rfl, BE.out⟩
theorem near_go (v : Value) (a b : Int) {w : World} (hv : InLan w v) (_ha : (Lit.int .i64 a).wf = true) (_hb : (Lit.int .i64 b).wf = true) : Calls Try.prog 6 #[v, .int .i64 a, .int .i64 b] w (True1 w) := by
  obtain ⟨l, A, c, B, d, rfl, hr⟩ := hv
  exact near_law hr a b
end Go.Proofs.Ytplgaenfcaphnaa.LanP
