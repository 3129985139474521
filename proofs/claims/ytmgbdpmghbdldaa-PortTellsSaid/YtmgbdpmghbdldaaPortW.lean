/-
  PortWaits, by the contracts of port's own functions.
-/
import Derived.Test.YtmgbdpmghbdldaaPortC
import Derived.Test.YtmgbdpmghbdldaaBools
import Derived.Deep.Cut
import Derived.Deep.CutRange
import Derived.IntWalk
namespace Go.Proofs.Ytmgbdpmghbdldaa.PortP
open Go.RowKit Go.Sort Go.Proofs.Ytmgbdpmghbdldaa.BoxP
set_option linter.unusedVariables false
set_option maxRecDepth 100000
theorem mod30_bd (n m : Int) (h0 : 0 < m) (h1 : m ≤ 1000) : 0 ≤ (wrap64 (n.tmod m + m)).tmod m ∧ (wrap64 (n.tmod m + m)).tmod m < m := by
  have h2 : -m < n.tmod m ∧ n.tmod m < m := by
    have := Int.natAbs_tmod n m
    have h3 : (n.tmod m).natAbs < m.natAbs := by rw [this]; exact Nat.mod_lt _ (by omega)
    omega
  rw [IntWalk.wrap64_in _ (by omega), Int.tmod_eq_emod_of_nonneg (a := n.tmod m + m) (by omega)]
  exact ⟨Int.emod_nonneg _ (by omega), Int.emod_lt_of_pos _ h0⟩
theorem may_st (C : PortC) {d i a1 a2 : Int} {w : World} (h1 : 1 ≤ d) (h0 : 0 ≤ i) (e : stA d i = (a1, a2)) : Calls Try.prog 9 #[sv a1 a2] w fun e w' => e = .returned (.tuple #[.bool (decide (d ≤ i)), .bool (decide (2 * d ≤ i))]) ∧ Below w.heap.size w w' := by
  have := C.may a1 a2 w
  obtain ⟨e1, e2⟩ := st_may (d := d) h1 h0
  rw [e] at e1 e2
  simp only at e1 e2
  rwa [e1, e2] at this
set_option maxHeartbeats 64000000 in
theorem waits_s (C : PortC) (n0 : Int) (a0 : Addr) (L0 : List Bool) (len0 cap0 : Nat) (hlen : len0 = L0.length) {w : World} (hc0 : len0 ≤ cap0) (hc1 : cap0 ≤ 9223372036854775807) (hS0 : BoolP.SlB w (some a0) L0) :
    Calls Try.prog 4 #[.int .i64 n0, .slice (some a0) len0 cap0] w (True1 w) := by
  obtain ⟨s1, s2⟩ := mod30_bd n0 30 (by omega) (by omega)
  obtain ⟨nx, hnx⟩ : ∃ x, (wrap64 (n0.tmod 30 + 30)).tmod 30 = x := ⟨_, rfl⟩
  rw [hnx] at s1 s2
  obtain ⟨d, hnw⟩ : ∃ x, 1 + nx = x := ⟨_, rfl⟩
  have hn : 1 ≤ d ∧ d ≤ 30 := by omega
  obtain ⟨h1, h30⟩ := hn
  have h00 := Lib.hid (show okS 0 0 d = true from ok_iff.2 ⟨⟨h1, h30⟩, .inl ⟨rfl, rfl⟩⟩)
  obtain ⟨w2, hw2⟩ : ∃ W, W = w.alloc (so 0 0) := ⟨_, rfl⟩
  have X2 := Lib.hid (show Bx w2 w.heap.size PT #[.int .i64 0, .int .i64 0] by rw [hw2]; exact Bx.new _ _ _ rfl)
  have B2 := Lib.hid (show Below w.heap.size w w2 by rw [hw2]; exact (Below.refl _ _).alloc (Nat.le_refl _) _)
  have hS := Lib.hid hS0
  replace hlen := Lib.hid hlen
  clear hS0
  go_enter Try.func4, Try.ntmps4
  go_upto_region 3 with fail
  rw [← hw2]
  clear hw2 hnx hnw s1 s2
  go_cut [33, 34, 35] from 29 to 35 (fun v33 v34 v35 wx => ∃ m : Nat, m ≤ 80 ∧ m ≤ L0.length ∧ v33 = .slice (some a0) m cap0 ∧ v34 = .int .i64 m ∧ v35 = .int .i64 0 ∧ wx = w2)
  case first =>
    by_cases hN : len0 ≤ 80
    · have hN1 : (len0 : Int) ≤ 80 := by omega
      have hN2 : ¬ (80 : Int) < len0 := by omega
      go_wp2_with fail
      go_meet
      exact ⟨len0, hN, by have := hlen.out; omega, rfl, rfl, rfl, rfl⟩
    · have hN1 : ¬ (len0 : Int) ≤ 80 := by omega
      have hN2 : (80 : Int) < len0 := by omega
      go_wp2_with fail
      go_meet
      exact ⟨80, by omega, by have := hlen.out; omega, rfl, rfl, rfl, rfl⟩
  case rest =>
  obtain ⟨m, hm3, hm4, rfl, rfl, rfl, rfl⟩ := hcut
  replace hm4 := Lib.hid hm4
  go_wp2_with fail
  go_loopw [35] (fun i wr => ∃ (k : Nat) (s l : Int), k ≤ m ∧ i = .int .i64 k ∧ okS s l d = true ∧ Bx wr w.heap.size PT #[.int .i64 s, .int .i64 l] ∧ Below w.heap.size w wr) (fun i _ => m - (intOf i).toNat)
  case atStart => exact ⟨0, 0, 0, by omega, rfl, h00.out, X2.out, B2.out⟩
  case round =>
    clear X2 B2
    obtain ⟨k, s, l, hk, rfl, hok, X, hb⟩ := hrel
    replace hok := Lib.hid hok
    have hpl := X.lt
    replace X := Lib.hid X
    by_cases hkm : k < m
    · obtain ⟨x0, hx0⟩ : ∃ x0, L0[k]? = some x0 := ⟨_, List.getElem?_eq_getElem (by have := hm4.out; omega)⟩
      obtain ⟨b0, o0, e9, hbw, q0⟩ := BoolP.SlB.at_ hS.out hx0
      obtain rfl : a0 = ⟨b0, o0, none⟩ := by simpa using e9
      replace q0 := (hb.cell (p := ⟨b0, _, none⟩) hbw).trans q0
      have hbw2 : b0 < wr.heap.size := Nat.lt_of_lt_of_le hbw hb.size
      clear hx0 hbw
      obtain ⟨⟨x1, x2⟩, hx⟩ : ∃ x, roleS s l d x0 = x := ⟨_, rfl⟩
      have hok2 := ok_role (a := x0) hok.out
      rw [hx] at hok2
      simp only at hok2
      obtain ⟨⟨y1, y2⟩, hy⟩ : ∃ x, tickS x1 x2 d = x := ⟨_, rfl⟩
      have hok3 := ok_tick hok2
      rw [hy] at hok3
      simp only at hok3
      have hfalse : x0 = false → y1 = 0 ∧ y2 = 0 := by
        rintro rfl
        have e1 : (0, 0) = (x1, x2) := hx
        injection e1 with e1 e2
        subst e1; subst e2
        have e3 : (0, 0) = (y1, y2) := hy
        injection e3 with e3 e4
        exact ⟨e3.symm, e4.symm⟩
      replace hx := Lib.hid hx
      replace hy := Lib.hid hy
      replace hok2 := Lib.hid hok2
      replace hok3 := Lib.hid hok3
      replace hfalse := Lib.hid hfalse
      have o_P_0 := X.out.c (i := 0) rfl
      have o_P_1 := X.out.c (i := 1) rfl
      go_wp2_with fail
      clear o_P_0 o_P_1
      go_at_call 6
      (with_reducible refine (role_to C _ hok.out hx.out).mono ?_)
      rintro e w31 ⟨rfl, hb31⟩
      have P_w31 := Lib.hid (X.out.below hb31)
      have z0_w31 : w.heap.size < w31.heap.size := Nat.lt_of_lt_of_le hpl hb31.size
      have B_w31 := bt hb hb31
      clear X hpl hb hb31
      clear q0 hbw2
      go_wp2_with fail
      obtain ⟨w32, hw32⟩ : ∃ W, W = w31.alloc (.cells #[.int .i64 x1, .int .i64 x2] 23) := ⟨_, rfl⟩
      have bw32 : Below w31.heap.size w31 w32 := by rw [hw32]; exact (Below.refl _ _).alloc (Nat.le_refl _) _
      have Xw32 : Bx w32 w31.heap.size 23 #[.int .i64 x1, .int .i64 x2] := by rw [hw32]; exact Bx.new _ _ _ rfl
      rw [← hw32]
      clear hw32
      have P_w32 := Lib.hid (P_w31.out.below bw32)
      have BA_w32 := Lib.hid (Xw32)
      have z0_w32 : w.heap.size < w32.heap.size := Nat.lt_of_lt_of_le z0_w31 bw32.size
      have B_w32 := bt B_w31 bw32
      clear P_w31 z0_w31 B_w31 bw32
      have z1_w32 : w31.heap.size < w32.heap.size := Xw32.lt
      clear Xw32
      go_at_call 7
      (with_reducible refine (tick_to C hok2.out hy.out).mono ?_)
      rintro e w33 ⟨rfl, hb33⟩
      have P_w33 := Lib.hid (P_w32.out.below hb33)
      have BA_w33 := Lib.hid (BA_w32.out.below hb33)
      have z0_w33 : w.heap.size < w33.heap.size := Nat.lt_of_lt_of_le z0_w32 hb33.size
      have z1_w33 : w31.heap.size < w33.heap.size := Nat.lt_of_lt_of_le z1_w32 hb33.size
      have B_w33 := bt B_w32 hb33
      clear P_w32 BA_w32 z0_w32 z1_w32 B_w32 hb33
      cases x0
      · obtain ⟨rfl, rfl⟩ := hfalse.out rfl
        have o_P_0 := P_w33.out.c (i := 0) rfl
        have o_P_1 := P_w33.out.c (i := 1) rfl
        have p_P_0 := P_w33.out.f 0
        have p_P_1 := P_w33.out.f 1
        go_wp2_with fail
        clear o_P_0 o_P_1 p_P_0 p_P_1
        obtain ⟨W0, hW0⟩ : ∃ W, W = (w33.setCell ⟨w.heap.size, 0, none⟩ (.int .i64 0)).setCell ⟨w.heap.size, 1, none⟩ (.int .i64 0) := ⟨_, rfl⟩
        have b5 := (Below.refl W0.heap.size W0).alloc (Nat.le_refl _) (so 0 0)
        have X5 : Bx W0 w.heap.size PT #[.int .i64 0, .int .i64 0] := by rw [hW0]; exact Bx.two P_w33.out
        have B5 : Below w.heap.size w W0 := by rw [hW0]; exact below2 B_w33 (Nat.le_refl _) _ _
        rw [hW0] at b5 X5 B5
        go_roundw
        case rel => exact ⟨k + 1, 0, 0, by omega, by go_num, hok3.out, X5.below b5, bt B5 b5⟩
        case measure => simp [intOf]; omega
      · have o_P_0 := P_w33.out.c (i := 0) rfl
        have o_P_1 := P_w33.out.c (i := 1) rfl
        have p_P_0 := P_w33.out.f 0
        have p_P_1 := P_w33.out.f 1
        go_wp2_with fail
        clear o_P_0 o_P_1 p_P_0 p_P_1
        obtain ⟨W0, hW0⟩ : ∃ W, W = (w33.setCell ⟨w.heap.size, 0, none⟩ (.int .i64 y1)).setCell ⟨w.heap.size, 1, none⟩ (.int .i64 y2) := ⟨_, rfl⟩
        have b5 := (Below.refl W0.heap.size W0).alloc (Nat.le_refl _) (so y1 y2)
        have X5 : Bx W0 w.heap.size PT #[.int .i64 y1, .int .i64 y2] := by rw [hW0]; exact Bx.two P_w33.out
        have B5 : Below w.heap.size w W0 := by rw [hW0]; exact below2 B_w33 (Nat.le_refl _) _ _
        rw [hW0] at b5 X5 B5
        go_roundw
        case rel => exact ⟨k + 1, y1, y2, by omega, by go_num, hok3.out, X5.below b5, bt B5 b5⟩
        case measure => simp [intOf]; omega
    · obtain rfl : k = m := by omega
      have hr0 := Lib.hid (show roleS s l d false = (0, 0) from rfl)
      have o_P_0 := X.out.c (i := 0) rfl
      have o_P_1 := X.out.c (i := 1) rfl
      go_wp2_with fail
      clear o_P_0 o_P_1
      go_at_call 6
      (with_reducible refine (role_to C false hok.out hr0.out).mono ?_)
      rintro e w51 ⟨rfl, hb51⟩
      have P_w51 := Lib.hid (X.out.below hb51)
      have z0_w51 : w.heap.size < w51.heap.size := Nat.lt_of_lt_of_le hpl hb51.size
      have B_w51 := bt hb hb51
      clear X hpl hb hb51
      have o_P_0 := P_w51.out.c (i := 0) rfl
      have o_P_1 := P_w51.out.c (i := 1) rfl
      have p_P_0 := P_w51.out.f 0
      have p_P_1 := P_w51.out.f 1
      go_wp2_with fail
      clear o_P_0 o_P_1 p_P_0 p_P_1
      obtain ⟨W0, hW0⟩ : ∃ W, W = (w51.setCell ⟨w.heap.size, 0, none⟩ (.int .i64 0)).setCell ⟨w.heap.size, 1, none⟩ (.int .i64 0) := ⟨_, rfl⟩
      have X5 := Lib.hid (show Bx W0 w.heap.size PT #[.int .i64 0, .int .i64 0] by rw [hW0]; exact Bx.two P_w51.out)
      have B5 := Lib.hid (show Below w.heap.size w W0 by rw [hW0]; exact below2 B_w51 (Nat.le_refl _) _ _)
      rw [← hW0]
      clear hW0 P_w51 B_w51 z0_w51
      go_loopw [80] (fun i wr => ∃ k : Nat, (k : Int) ≤ 2 * d + 3 ∧ i = .int .i64 k ∧ Bx wr w.heap.size PT #[.int .i64 (stS d k).1, .int .i64 (stS d k).2] ∧ Below w.heap.size w wr) (fun i _ => (2 * d + 3 - intOf i).toNat)
      case atStart => exact ⟨0, by omega, rfl, X5.out, B5.out⟩
      case round =>
        clear X5 B5
        obtain ⟨i, hi, rfl, X, hb⟩ := hrel
        have hpl := X.lt
        by_cases him : (i : Int) < 2 * d + 3
        · obtain ⟨o1, o2⟩ := st_ok (d := d) (i := i) h1 h30 (by omega)
          obtain ⟨r1, r2⟩ := st_role (d := d) (i := i) h1 (by omega)
          have ti := st_tick (d := d) (i := i) h1 (by omega)
          have le := st_left (d := d) (i := i) h1 (by omega)
          obtain ⟨⟨a1, a2⟩, ha⟩ : ∃ x, stA d i = x := ⟨_, rfl⟩
          obtain ⟨⟨s1, s2⟩, hs⟩ : ∃ x, stS d i = x := ⟨_, rfl⟩
          obtain ⟨⟨t1, t2⟩, ht⟩ : ∃ x, stS d ((i : Int) + 1) = x := ⟨_, rfl⟩
          rw [ha] at o1 r1 r2 ti
          rw [hs] at o2 r1 le X
          rw [ht] at ti
          simp only at o1 o2 r1 r2 ti le X
          have hib : i ≤ 63 := by omega
          have hE := fun w => neq_same a1 a2 w
          replace X := Lib.hid X
          replace o1 := Lib.hid o1
          replace o2 := Lib.hid o2
          replace r1 := Lib.hid r1
          replace r2 := Lib.hid r2
          replace ti := Lib.hid ti
          replace ha := Lib.hid ha
          replace ht := Lib.hid ht
          clear hs
          have o_P_0 := X.out.c (i := 0) rfl
          have o_P_1 := X.out.c (i := 1) rfl
          go_wp2_with fail
          clear o_P_0 o_P_1
          go_at_call 6
          (with_reducible refine (role_to C true o2.out r1.out).mono ?_)
          rintro e w71 ⟨rfl, hb71⟩
          have P_w71 := Lib.hid (X.out.below hb71)
          have z0_w71 : w.heap.size < w71.heap.size := Nat.lt_of_lt_of_le hpl hb71.size
          have B_w71 := bt hb hb71
          clear X hpl hb hb71
          go_wp2_with fail
          obtain ⟨w72, hw72⟩ : ∃ W, W = w71.alloc (.cells #[.int .i64 a1, .int .i64 a2] 23) := ⟨_, rfl⟩
          have bw72 : Below w71.heap.size w71 w72 := by rw [hw72]; exact (Below.refl _ _).alloc (Nat.le_refl _) _
          have Xw72 : Bx w72 w71.heap.size 23 #[.int .i64 a1, .int .i64 a2] := by rw [hw72]; exact Bx.new _ _ _ rfl
          rw [← hw72]
          clear hw72
          have P_w72 := Lib.hid (P_w71.out.below bw72)
          have BA_w72 := Lib.hid (Xw72)
          have z0_w72 : w.heap.size < w72.heap.size := Nat.lt_of_lt_of_le z0_w71 bw72.size
          have B_w72 := bt B_w71 bw72
          clear P_w71 z0_w71 B_w71 bw72
          have z1_w72 : w71.heap.size < w72.heap.size := Xw72.lt
          clear Xw72
          go_at_call 6
          (with_reducible refine (role_to C true o1.out r2.out).mono ?_)
          rintro e w73 ⟨rfl, hb73⟩
          have P_w73 := Lib.hid (P_w72.out.below hb73)
          have BA_w73 := Lib.hid (BA_w72.out.below hb73)
          have z0_w73 : w.heap.size < w73.heap.size := Nat.lt_of_lt_of_le z0_w72 hb73.size
          have z1_w73 : w71.heap.size < w73.heap.size := Nat.lt_of_lt_of_le z1_w72 hb73.size
          have B_w73 := bt B_w72 hb73
          clear P_w72 BA_w72 z0_w72 z1_w72 B_w72 hb73
          have o_P_0 := P_w73.out.c (i := 0) rfl
          have o_P_1 := P_w73.out.c (i := 1) rfl
          go_wp2_with fail
          clear o_P_0 o_P_1
          obtain ⟨w74, hw74⟩ : ∃ W, W = w73.alloc (.cells #[.int .i64 a1, .int .i64 a2] 23) := ⟨_, rfl⟩
          have bw74 : Below w73.heap.size w73 w74 := by rw [hw74]; exact (Below.refl _ _).alloc (Nat.le_refl _) _
          have Xw74 : Bx w74 w73.heap.size 23 #[.int .i64 a1, .int .i64 a2] := by rw [hw74]; exact Bx.new _ _ _ rfl
          rw [← hw74]
          clear hw74
          have P_w74 := Lib.hid (P_w73.out.below bw74)
          have BA_w74 := Lib.hid (BA_w73.out.below bw74)
          have BG_w74 := Lib.hid (Xw74)
          have z0_w74 : w.heap.size < w74.heap.size := Nat.lt_of_lt_of_le z0_w73 bw74.size
          have z1_w74 : w71.heap.size < w74.heap.size := Nat.lt_of_lt_of_le z1_w73 bw74.size
          have B_w74 := bt B_w73 bw74
          clear P_w73 BA_w73 z0_w73 z1_w73 B_w73 bw74
          have z2_w74 : w73.heap.size < w74.heap.size := Xw74.lt
          clear Xw74
          by_cases hc : (i : Int) < 2 * d
          · rw [if_pos hc] at le
            replace le := Lib.hid le
            have hc1 : (0 : Int) < 2 * d - (i : Int) := by omega
            have hc2 : ¬ 2 * d - (i : Int) < 0 := by omega
            have hc3 : ¬ 2 * d ≤ (i : Int) := by omega
            go_at_call 8
            (with_reducible refine (left_to C o2.out le.out).mono ?_)
            rintro e w75 ⟨rfl, hb75⟩
            have P_w75 := Lib.hid (P_w74.out.below hb75)
            have BA_w75 := Lib.hid (BA_w74.out.below hb75)
            have BG_w75 := Lib.hid (BG_w74.out.below hb75)
            have z0_w75 : w.heap.size < w75.heap.size := Nat.lt_of_lt_of_le z0_w74 hb75.size
            have z1_w75 : w71.heap.size < w75.heap.size := Nat.lt_of_lt_of_le z1_w74 hb75.size
            have z2_w75 : w73.heap.size < w75.heap.size := Nat.lt_of_lt_of_le z2_w74 hb75.size
            have B_w75 := bt B_w74 hb75
            clear P_w74 BA_w74 BG_w74 z0_w74 z1_w74 z2_w74 B_w74 hb75
            have o_BA_0 := BA_w75.out.c (i := 0) rfl
            have o_BA_1 := BA_w75.out.c (i := 1) rfl
            go_wp2_with fail
            clear o_BA_0 o_BA_1
            go_at_call 9
            (with_reducible refine (may_st C h1 (Int.natCast_nonneg i) ha.out).mono ?_)
            rintro e w76 ⟨rfl, hb76⟩
            have P_w76 := Lib.hid (P_w75.out.below hb76)
            have BA_w76 := Lib.hid (BA_w75.out.below hb76)
            have BG_w76 := Lib.hid (BG_w75.out.below hb76)
            have z0_w76 : w.heap.size < w76.heap.size := Nat.lt_of_lt_of_le z0_w75 hb76.size
            have z1_w76 : w71.heap.size < w76.heap.size := Nat.lt_of_lt_of_le z1_w75 hb76.size
            have z2_w76 : w73.heap.size < w76.heap.size := Nat.lt_of_lt_of_le z2_w75 hb76.size
            have B_w76 := bt B_w75 hb76
            clear P_w75 BA_w75 BG_w75 z0_w75 z1_w75 z2_w75 B_w75 hb76
            have o_BA_0 := BA_w76.out.c (i := 0) rfl
            have o_BA_1 := BA_w76.out.c (i := 1) rfl
            have o_BG_0 := BG_w76.out.c (i := 0) rfl
            have o_BG_1 := BG_w76.out.c (i := 1) rfl
            go_wp2_with fail
            clear o_BA_0 o_BA_1 o_BG_0 o_BG_1
            go_at_call 7
            (with_reducible refine (tick_to C o1.out ti.out).mono ?_)
            rintro e w77 ⟨rfl, hb77⟩
            have P_w77 := Lib.hid (P_w76.out.below hb77)
            have BA_w77 := Lib.hid (BA_w76.out.below hb77)
            have BG_w77 := Lib.hid (BG_w76.out.below hb77)
            have z0_w77 : w.heap.size < w77.heap.size := Nat.lt_of_lt_of_le z0_w76 hb77.size
            have z1_w77 : w71.heap.size < w77.heap.size := Nat.lt_of_lt_of_le z1_w76 hb77.size
            have z2_w77 : w73.heap.size < w77.heap.size := Nat.lt_of_lt_of_le z2_w76 hb77.size
            have B_w77 := bt B_w76 hb77
            clear P_w76 BA_w76 BG_w76 z0_w76 z1_w76 z2_w76 B_w76 hb77
            have o_P_0 := P_w77.out.c (i := 0) rfl
            have o_P_1 := P_w77.out.c (i := 1) rfl
            have p_P_0 := P_w77.out.f 0
            have p_P_1 := P_w77.out.f 1
            go_wp2_with fail
            clear o_P_0 o_P_1 p_P_0 p_P_1
            obtain ⟨W0, hW0⟩ : ∃ W, W = (w77.setCell ⟨w.heap.size, 0, none⟩ (.int .i64 t1)).setCell ⟨w.heap.size, 1, none⟩ (.int .i64 t2) := ⟨_, rfl⟩
            have b5 := (Below.refl W0.heap.size W0).alloc (Nat.le_refl _) (so t1 t2)
            have X5 : Bx W0 w.heap.size PT #[.int .i64 t1, .int .i64 t2] := by rw [hW0]; exact Bx.two P_w77.out
            have B5 : Below w.heap.size w W0 := by rw [hW0]; exact below2 B_w77 (Nat.le_refl _) _ _
            rw [hW0] at b5 X5 B5
            go_roundw
            case rel => exact ⟨i + 1, by omega, by go_num, by have e := ht.out; rw [show ((i + 1 : Nat) : Int) = (i : Int) + 1 by omega, e]; exact X5.below b5, bt B5 b5⟩
            case measure => simp [intOf]; omega
          · rw [if_neg hc] at le
            replace le := Lib.hid le
            have hc1 : ¬ (0 : Int) < 2 * d - (i : Int) := by omega
            have hc3 : 2 * d ≤ (i : Int) := by omega
            go_at_call 8
            (with_reducible refine (left_to C o2.out le.out).mono ?_)
            rintro e w75 ⟨rfl, hb75⟩
            have P_w75 := Lib.hid (P_w74.out.below hb75)
            have BA_w75 := Lib.hid (BA_w74.out.below hb75)
            have BG_w75 := Lib.hid (BG_w74.out.below hb75)
            have z0_w75 : w.heap.size < w75.heap.size := Nat.lt_of_lt_of_le z0_w74 hb75.size
            have z1_w75 : w71.heap.size < w75.heap.size := Nat.lt_of_lt_of_le z1_w74 hb75.size
            have z2_w75 : w73.heap.size < w75.heap.size := Nat.lt_of_lt_of_le z2_w74 hb75.size
            have B_w75 := bt B_w74 hb75
            clear P_w74 BA_w74 BG_w74 z0_w74 z1_w74 z2_w74 B_w74 hb75
            have o_BA_0 := BA_w75.out.c (i := 0) rfl
            have o_BA_1 := BA_w75.out.c (i := 1) rfl
            go_wp2_with fail
            clear o_BA_0 o_BA_1
            go_at_call 9
            (with_reducible refine (may_st C h1 (Int.natCast_nonneg i) ha.out).mono ?_)
            rintro e w76 ⟨rfl, hb76⟩
            have P_w76 := Lib.hid (P_w75.out.below hb76)
            have BA_w76 := Lib.hid (BA_w75.out.below hb76)
            have BG_w76 := Lib.hid (BG_w75.out.below hb76)
            have z0_w76 : w.heap.size < w76.heap.size := Nat.lt_of_lt_of_le z0_w75 hb76.size
            have z1_w76 : w71.heap.size < w76.heap.size := Nat.lt_of_lt_of_le z1_w75 hb76.size
            have z2_w76 : w73.heap.size < w76.heap.size := Nat.lt_of_lt_of_le z2_w75 hb76.size
            have B_w76 := bt B_w75 hb76
            clear P_w75 BA_w75 BG_w75 z0_w75 z1_w75 z2_w75 B_w75 hb76
            have o_BA_0 := BA_w76.out.c (i := 0) rfl
            have o_BA_1 := BA_w76.out.c (i := 1) rfl
            have o_BG_0 := BG_w76.out.c (i := 0) rfl
            have o_BG_1 := BG_w76.out.c (i := 1) rfl
            go_wp2_with fail
            clear o_BA_0 o_BA_1 o_BG_0 o_BG_1
            go_at_call 7
            (with_reducible refine (tick_to C o1.out ti.out).mono ?_)
            rintro e w77 ⟨rfl, hb77⟩
            have P_w77 := Lib.hid (P_w76.out.below hb77)
            have BA_w77 := Lib.hid (BA_w76.out.below hb77)
            have BG_w77 := Lib.hid (BG_w76.out.below hb77)
            have z0_w77 : w.heap.size < w77.heap.size := Nat.lt_of_lt_of_le z0_w76 hb77.size
            have z1_w77 : w71.heap.size < w77.heap.size := Nat.lt_of_lt_of_le z1_w76 hb77.size
            have z2_w77 : w73.heap.size < w77.heap.size := Nat.lt_of_lt_of_le z2_w76 hb77.size
            have B_w77 := bt B_w76 hb77
            clear P_w76 BA_w76 BG_w76 z0_w76 z1_w76 z2_w76 B_w76 hb77
            have o_P_0 := P_w77.out.c (i := 0) rfl
            have o_P_1 := P_w77.out.c (i := 1) rfl
            have p_P_0 := P_w77.out.f 0
            have p_P_1 := P_w77.out.f 1
            go_wp2_with fail
            clear o_P_0 o_P_1 p_P_0 p_P_1
            obtain ⟨W0, hW0⟩ : ∃ W, W = (w77.setCell ⟨w.heap.size, 0, none⟩ (.int .i64 t1)).setCell ⟨w.heap.size, 1, none⟩ (.int .i64 t2) := ⟨_, rfl⟩
            have b5 := (Below.refl W0.heap.size W0).alloc (Nat.le_refl _) (so t1 t2)
            have X5 : Bx W0 w.heap.size PT #[.int .i64 t1, .int .i64 t2] := by rw [hW0]; exact Bx.two P_w77.out
            have B5 : Below w.heap.size w W0 := by rw [hW0]; exact below2 B_w77 (Nat.le_refl _) _ _
            rw [hW0] at b5 X5 B5
            go_roundw
            case rel => exact ⟨i + 1, by omega, by go_num, by have e := ht.out; rw [show ((i + 1 : Nat) : Int) = (i : Int) + 1 by omega, e]; exact X5.below b5, bt B5 b5⟩
            case measure => simp [intOf]; omega
        · have him2 : ¬ (i : Int) < 2 * d + 3 := him
          replace X := Lib.hid X
          replace hb := Lib.hid hb
          go_wp2_with fail
          go_at_call 12
          (with_reducible refine (alive_any C _).mono ?_)
          rintro e w4 ⟨rfl, hb4⟩
          go_wp2_with fail
          go_ret
          exact ⟨rfl, bt hb.out hb4⟩
set_option maxHeartbeats 64000000 in
theorem waits_n (C : PortC) (n0 : Int) {w : World} :
    Calls Try.prog 4 #[.int .i64 n0, .slice none 0 0] w (True1 w) := by
  obtain ⟨s1, s2⟩ := mod30_bd n0 30 (by omega) (by omega)
  obtain ⟨nx, hnx⟩ : ∃ x, (wrap64 (n0.tmod 30 + 30)).tmod 30 = x := ⟨_, rfl⟩
  rw [hnx] at s1 s2
  obtain ⟨d, hnw⟩ : ∃ x, 1 + nx = x := ⟨_, rfl⟩
  have hn : 1 ≤ d ∧ d ≤ 30 := by omega
  obtain ⟨h1, h30⟩ := hn
  have h00 := Lib.hid (show okS 0 0 d = true from ok_iff.2 ⟨⟨h1, h30⟩, .inl ⟨rfl, rfl⟩⟩)
  obtain ⟨w2, hw2⟩ : ∃ W, W = w.alloc (so 0 0) := ⟨_, rfl⟩
  have X2 := Lib.hid (show Bx w2 w.heap.size PT #[.int .i64 0, .int .i64 0] by rw [hw2]; exact Bx.new _ _ _ rfl)
  have B2 := Lib.hid (show Below w.heap.size w w2 by rw [hw2]; exact (Below.refl _ _).alloc (Nat.le_refl _) _)
  go_enter Try.func4, Try.ntmps4
  go_wp2_with fail
  rw [← hw2]
  clear hw2 hnx hnw s1 s2
  go_loopw [35] (fun i wr => ∃ (k : Nat) (s l : Int), k ≤ 0 ∧ i = .int .i64 k ∧ okS s l d = true ∧ Bx wr w.heap.size PT #[.int .i64 s, .int .i64 l] ∧ Below w.heap.size w wr) (fun i _ => 0 - (intOf i).toNat)
  case atStart => exact ⟨0, 0, 0, by omega, rfl, h00.out, X2.out, B2.out⟩
  case round =>
    clear X2 B2
    obtain ⟨k, s, l, hk, rfl, hok, X, hb⟩ := hrel
    replace hok := Lib.hid hok
    have hpl := X.lt
    replace X := Lib.hid X
    obtain rfl : k = 0 := by omega
    have hr0 := Lib.hid (show roleS s l d false = (0, 0) from rfl)
    have o_P_0 := X.out.c (i := 0) rfl
    have o_P_1 := X.out.c (i := 1) rfl
    go_wp2_with fail
    clear o_P_0 o_P_1
    go_at_call 6
    (with_reducible refine (role_to C false hok.out hr0.out).mono ?_)
    rintro e w51 ⟨rfl, hb51⟩
    have P_w51 := Lib.hid (X.out.below hb51)
    have z0_w51 : w.heap.size < w51.heap.size := Nat.lt_of_lt_of_le hpl hb51.size
    have B_w51 := bt hb hb51
    clear X hpl hb hb51
    have o_P_0 := P_w51.out.c (i := 0) rfl
    have o_P_1 := P_w51.out.c (i := 1) rfl
    have p_P_0 := P_w51.out.f 0
    have p_P_1 := P_w51.out.f 1
    go_wp2_with fail
    clear o_P_0 o_P_1 p_P_0 p_P_1
    obtain ⟨W0, hW0⟩ : ∃ W, W = (w51.setCell ⟨w.heap.size, 0, none⟩ (.int .i64 0)).setCell ⟨w.heap.size, 1, none⟩ (.int .i64 0) := ⟨_, rfl⟩
    have X5 := Lib.hid (show Bx W0 w.heap.size PT #[.int .i64 0, .int .i64 0] by rw [hW0]; exact Bx.two P_w51.out)
    have B5 := Lib.hid (show Below w.heap.size w W0 by rw [hW0]; exact below2 B_w51 (Nat.le_refl _) _ _)
    rw [← hW0]
    clear hW0 P_w51 B_w51 z0_w51
    go_loopw [80] (fun i wr => ∃ k : Nat, (k : Int) ≤ 2 * d + 3 ∧ i = .int .i64 k ∧ Bx wr w.heap.size PT #[.int .i64 (stS d k).1, .int .i64 (stS d k).2] ∧ Below w.heap.size w wr) (fun i _ => (2 * d + 3 - intOf i).toNat)
    case atStart => exact ⟨0, by omega, rfl, X5.out, B5.out⟩
    case round =>
      clear X5 B5
      obtain ⟨i, hi, rfl, X, hb⟩ := hrel
      have hpl := X.lt
      by_cases him : (i : Int) < 2 * d + 3
      · obtain ⟨o1, o2⟩ := st_ok (d := d) (i := i) h1 h30 (by omega)
        obtain ⟨r1, r2⟩ := st_role (d := d) (i := i) h1 (by omega)
        have ti := st_tick (d := d) (i := i) h1 (by omega)
        have le := st_left (d := d) (i := i) h1 (by omega)
        obtain ⟨⟨a1, a2⟩, ha⟩ : ∃ x, stA d i = x := ⟨_, rfl⟩
        obtain ⟨⟨s1, s2⟩, hs⟩ : ∃ x, stS d i = x := ⟨_, rfl⟩
        obtain ⟨⟨t1, t2⟩, ht⟩ : ∃ x, stS d ((i : Int) + 1) = x := ⟨_, rfl⟩
        rw [ha] at o1 r1 r2 ti
        rw [hs] at o2 r1 le X
        rw [ht] at ti
        simp only at o1 o2 r1 r2 ti le X
        have hib : i ≤ 63 := by omega
        have hE := fun w => neq_same a1 a2 w
        replace X := Lib.hid X
        replace o1 := Lib.hid o1
        replace o2 := Lib.hid o2
        replace r1 := Lib.hid r1
        replace r2 := Lib.hid r2
        replace ti := Lib.hid ti
        replace ha := Lib.hid ha
        replace ht := Lib.hid ht
        clear hs
        have o_P_0 := X.out.c (i := 0) rfl
        have o_P_1 := X.out.c (i := 1) rfl
        go_wp2_with fail
        clear o_P_0 o_P_1
        go_at_call 6
        (with_reducible refine (role_to C true o2.out r1.out).mono ?_)
        rintro e w71 ⟨rfl, hb71⟩
        have P_w71 := Lib.hid (X.out.below hb71)
        have z0_w71 : w.heap.size < w71.heap.size := Nat.lt_of_lt_of_le hpl hb71.size
        have B_w71 := bt hb hb71
        clear X hpl hb hb71
        go_wp2_with fail
        obtain ⟨w72, hw72⟩ : ∃ W, W = w71.alloc (.cells #[.int .i64 a1, .int .i64 a2] 23) := ⟨_, rfl⟩
        have bw72 : Below w71.heap.size w71 w72 := by rw [hw72]; exact (Below.refl _ _).alloc (Nat.le_refl _) _
        have Xw72 : Bx w72 w71.heap.size 23 #[.int .i64 a1, .int .i64 a2] := by rw [hw72]; exact Bx.new _ _ _ rfl
        rw [← hw72]
        clear hw72
        have P_w72 := Lib.hid (P_w71.out.below bw72)
        have BA_w72 := Lib.hid (Xw72)
        have z0_w72 : w.heap.size < w72.heap.size := Nat.lt_of_lt_of_le z0_w71 bw72.size
        have B_w72 := bt B_w71 bw72
        clear P_w71 z0_w71 B_w71 bw72
        have z1_w72 : w71.heap.size < w72.heap.size := Xw72.lt
        clear Xw72
        go_at_call 6
        (with_reducible refine (role_to C true o1.out r2.out).mono ?_)
        rintro e w73 ⟨rfl, hb73⟩
        have P_w73 := Lib.hid (P_w72.out.below hb73)
        have BA_w73 := Lib.hid (BA_w72.out.below hb73)
        have z0_w73 : w.heap.size < w73.heap.size := Nat.lt_of_lt_of_le z0_w72 hb73.size
        have z1_w73 : w71.heap.size < w73.heap.size := Nat.lt_of_lt_of_le z1_w72 hb73.size
        have B_w73 := bt B_w72 hb73
        clear P_w72 BA_w72 z0_w72 z1_w72 B_w72 hb73
        have o_P_0 := P_w73.out.c (i := 0) rfl
        have o_P_1 := P_w73.out.c (i := 1) rfl
        go_wp2_with fail
        clear o_P_0 o_P_1
        obtain ⟨w74, hw74⟩ : ∃ W, W = w73.alloc (.cells #[.int .i64 a1, .int .i64 a2] 23) := ⟨_, rfl⟩
        have bw74 : Below w73.heap.size w73 w74 := by rw [hw74]; exact (Below.refl _ _).alloc (Nat.le_refl _) _
        have Xw74 : Bx w74 w73.heap.size 23 #[.int .i64 a1, .int .i64 a2] := by rw [hw74]; exact Bx.new _ _ _ rfl
        rw [← hw74]
        clear hw74
        have P_w74 := Lib.hid (P_w73.out.below bw74)
        have BA_w74 := Lib.hid (BA_w73.out.below bw74)
        have BG_w74 := Lib.hid (Xw74)
        have z0_w74 : w.heap.size < w74.heap.size := Nat.lt_of_lt_of_le z0_w73 bw74.size
        have z1_w74 : w71.heap.size < w74.heap.size := Nat.lt_of_lt_of_le z1_w73 bw74.size
        have B_w74 := bt B_w73 bw74
        clear P_w73 BA_w73 z0_w73 z1_w73 B_w73 bw74
        have z2_w74 : w73.heap.size < w74.heap.size := Xw74.lt
        clear Xw74
        by_cases hc : (i : Int) < 2 * d
        · rw [if_pos hc] at le
          replace le := Lib.hid le
          have hc1 : (0 : Int) < 2 * d - (i : Int) := by omega
          have hc2 : ¬ 2 * d - (i : Int) < 0 := by omega
          have hc3 : ¬ 2 * d ≤ (i : Int) := by omega
          go_at_call 8
          (with_reducible refine (left_to C o2.out le.out).mono ?_)
          rintro e w75 ⟨rfl, hb75⟩
          have P_w75 := Lib.hid (P_w74.out.below hb75)
          have BA_w75 := Lib.hid (BA_w74.out.below hb75)
          have BG_w75 := Lib.hid (BG_w74.out.below hb75)
          have z0_w75 : w.heap.size < w75.heap.size := Nat.lt_of_lt_of_le z0_w74 hb75.size
          have z1_w75 : w71.heap.size < w75.heap.size := Nat.lt_of_lt_of_le z1_w74 hb75.size
          have z2_w75 : w73.heap.size < w75.heap.size := Nat.lt_of_lt_of_le z2_w74 hb75.size
          have B_w75 := bt B_w74 hb75
          clear P_w74 BA_w74 BG_w74 z0_w74 z1_w74 z2_w74 B_w74 hb75
          have o_BA_0 := BA_w75.out.c (i := 0) rfl
          have o_BA_1 := BA_w75.out.c (i := 1) rfl
          go_wp2_with fail
          clear o_BA_0 o_BA_1
          go_at_call 9
          (with_reducible refine (may_st C h1 (Int.natCast_nonneg i) ha.out).mono ?_)
          rintro e w76 ⟨rfl, hb76⟩
          have P_w76 := Lib.hid (P_w75.out.below hb76)
          have BA_w76 := Lib.hid (BA_w75.out.below hb76)
          have BG_w76 := Lib.hid (BG_w75.out.below hb76)
          have z0_w76 : w.heap.size < w76.heap.size := Nat.lt_of_lt_of_le z0_w75 hb76.size
          have z1_w76 : w71.heap.size < w76.heap.size := Nat.lt_of_lt_of_le z1_w75 hb76.size
          have z2_w76 : w73.heap.size < w76.heap.size := Nat.lt_of_lt_of_le z2_w75 hb76.size
          have B_w76 := bt B_w75 hb76
          clear P_w75 BA_w75 BG_w75 z0_w75 z1_w75 z2_w75 B_w75 hb76
          have o_BA_0 := BA_w76.out.c (i := 0) rfl
          have o_BA_1 := BA_w76.out.c (i := 1) rfl
          have o_BG_0 := BG_w76.out.c (i := 0) rfl
          have o_BG_1 := BG_w76.out.c (i := 1) rfl
          go_wp2_with fail
          clear o_BA_0 o_BA_1 o_BG_0 o_BG_1
          go_at_call 7
          (with_reducible refine (tick_to C o1.out ti.out).mono ?_)
          rintro e w77 ⟨rfl, hb77⟩
          have P_w77 := Lib.hid (P_w76.out.below hb77)
          have BA_w77 := Lib.hid (BA_w76.out.below hb77)
          have BG_w77 := Lib.hid (BG_w76.out.below hb77)
          have z0_w77 : w.heap.size < w77.heap.size := Nat.lt_of_lt_of_le z0_w76 hb77.size
          have z1_w77 : w71.heap.size < w77.heap.size := Nat.lt_of_lt_of_le z1_w76 hb77.size
          have z2_w77 : w73.heap.size < w77.heap.size := Nat.lt_of_lt_of_le z2_w76 hb77.size
          have B_w77 := bt B_w76 hb77
          clear P_w76 BA_w76 BG_w76 z0_w76 z1_w76 z2_w76 B_w76 hb77
          have o_P_0 := P_w77.out.c (i := 0) rfl
          have o_P_1 := P_w77.out.c (i := 1) rfl
          have p_P_0 := P_w77.out.f 0
          have p_P_1 := P_w77.out.f 1
          go_wp2_with fail
          clear o_P_0 o_P_1 p_P_0 p_P_1
          obtain ⟨W0, hW0⟩ : ∃ W, W = (w77.setCell ⟨w.heap.size, 0, none⟩ (.int .i64 t1)).setCell ⟨w.heap.size, 1, none⟩ (.int .i64 t2) := ⟨_, rfl⟩
          have b5 := (Below.refl W0.heap.size W0).alloc (Nat.le_refl _) (so t1 t2)
          have X5 : Bx W0 w.heap.size PT #[.int .i64 t1, .int .i64 t2] := by rw [hW0]; exact Bx.two P_w77.out
          have B5 : Below w.heap.size w W0 := by rw [hW0]; exact below2 B_w77 (Nat.le_refl _) _ _
          rw [hW0] at b5 X5 B5
          go_roundw
          case rel => exact ⟨i + 1, by omega, by go_num, by have e := ht.out; rw [show ((i + 1 : Nat) : Int) = (i : Int) + 1 by omega, e]; exact X5.below b5, bt B5 b5⟩
          case measure => simp [intOf]; omega
        · rw [if_neg hc] at le
          replace le := Lib.hid le
          have hc1 : ¬ (0 : Int) < 2 * d - (i : Int) := by omega
          have hc3 : 2 * d ≤ (i : Int) := by omega
          go_at_call 8
          (with_reducible refine (left_to C o2.out le.out).mono ?_)
          rintro e w75 ⟨rfl, hb75⟩
          have P_w75 := Lib.hid (P_w74.out.below hb75)
          have BA_w75 := Lib.hid (BA_w74.out.below hb75)
          have BG_w75 := Lib.hid (BG_w74.out.below hb75)
          have z0_w75 : w.heap.size < w75.heap.size := Nat.lt_of_lt_of_le z0_w74 hb75.size
          have z1_w75 : w71.heap.size < w75.heap.size := Nat.lt_of_lt_of_le z1_w74 hb75.size
          have z2_w75 : w73.heap.size < w75.heap.size := Nat.lt_of_lt_of_le z2_w74 hb75.size
          have B_w75 := bt B_w74 hb75
          clear P_w74 BA_w74 BG_w74 z0_w74 z1_w74 z2_w74 B_w74 hb75
          have o_BA_0 := BA_w75.out.c (i := 0) rfl
          have o_BA_1 := BA_w75.out.c (i := 1) rfl
          go_wp2_with fail
          clear o_BA_0 o_BA_1
          go_at_call 9
          (with_reducible refine (may_st C h1 (Int.natCast_nonneg i) ha.out).mono ?_)
          rintro e w76 ⟨rfl, hb76⟩
          have P_w76 := Lib.hid (P_w75.out.below hb76)
          have BA_w76 := Lib.hid (BA_w75.out.below hb76)
          have BG_w76 := Lib.hid (BG_w75.out.below hb76)
          have z0_w76 : w.heap.size < w76.heap.size := Nat.lt_of_lt_of_le z0_w75 hb76.size
          have z1_w76 : w71.heap.size < w76.heap.size := Nat.lt_of_lt_of_le z1_w75 hb76.size
          have z2_w76 : w73.heap.size < w76.heap.size := Nat.lt_of_lt_of_le z2_w75 hb76.size
          have B_w76 := bt B_w75 hb76
          clear P_w75 BA_w75 BG_w75 z0_w75 z1_w75 z2_w75 B_w75 hb76
          have o_BA_0 := BA_w76.out.c (i := 0) rfl
          have o_BA_1 := BA_w76.out.c (i := 1) rfl
          have o_BG_0 := BG_w76.out.c (i := 0) rfl
          have o_BG_1 := BG_w76.out.c (i := 1) rfl
          go_wp2_with fail
          clear o_BA_0 o_BA_1 o_BG_0 o_BG_1
          go_at_call 7
          (with_reducible refine (tick_to C o1.out ti.out).mono ?_)
          rintro e w77 ⟨rfl, hb77⟩
          have P_w77 := Lib.hid (P_w76.out.below hb77)
          have BA_w77 := Lib.hid (BA_w76.out.below hb77)
          have BG_w77 := Lib.hid (BG_w76.out.below hb77)
          have z0_w77 : w.heap.size < w77.heap.size := Nat.lt_of_lt_of_le z0_w76 hb77.size
          have z1_w77 : w71.heap.size < w77.heap.size := Nat.lt_of_lt_of_le z1_w76 hb77.size
          have z2_w77 : w73.heap.size < w77.heap.size := Nat.lt_of_lt_of_le z2_w76 hb77.size
          have B_w77 := bt B_w76 hb77
          clear P_w76 BA_w76 BG_w76 z0_w76 z1_w76 z2_w76 B_w76 hb77
          have o_P_0 := P_w77.out.c (i := 0) rfl
          have o_P_1 := P_w77.out.c (i := 1) rfl
          have p_P_0 := P_w77.out.f 0
          have p_P_1 := P_w77.out.f 1
          go_wp2_with fail
          clear o_P_0 o_P_1 p_P_0 p_P_1
          obtain ⟨W0, hW0⟩ : ∃ W, W = (w77.setCell ⟨w.heap.size, 0, none⟩ (.int .i64 t1)).setCell ⟨w.heap.size, 1, none⟩ (.int .i64 t2) := ⟨_, rfl⟩
          have b5 := (Below.refl W0.heap.size W0).alloc (Nat.le_refl _) (so t1 t2)
          have X5 : Bx W0 w.heap.size PT #[.int .i64 t1, .int .i64 t2] := by rw [hW0]; exact Bx.two P_w77.out
          have B5 : Below w.heap.size w W0 := by rw [hW0]; exact below2 B_w77 (Nat.le_refl _) _ _
          rw [hW0] at b5 X5 B5
          go_roundw
          case rel => exact ⟨i + 1, by omega, by go_num, by have e := ht.out; rw [show ((i + 1 : Nat) : Int) = (i : Int) + 1 by omega, e]; exact X5.below b5, bt B5 b5⟩
          case measure => simp [intOf]; omega
      · have him2 : ¬ (i : Int) < 2 * d + 3 := him
        replace X := Lib.hid X
        replace hb := Lib.hid hb
        go_wp2_with fail
        go_at_call 12
        (with_reducible refine (alive_any C _).mono ?_)
        rintro e w4 ⟨rfl, hb4⟩
        go_wp2_with fail
        go_ret
        exact ⟨rfl, bt hb.out hb4⟩
theorem waits_law (C : PortC) (n : Int) (v : Value) {w : World} (_h0 : (Lit.int .i64 n).wf = true) (h : BoolP.InB w v) : Calls Try.prog 4 #[.int .i64 n, v] w (True1 w) := by
  rcases h with rfl | ⟨a, L, cap, rfl, h1, h2, h3⟩
  · exact waits_n C n
  · exact waits_s C n a L L.length cap rfl h1 h2 h3
end Go.Proofs.Ytmgbdpmghbdldaa.PortP
