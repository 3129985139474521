/-
  FloodMore.
-/
import Derived.Test.YtgcmklliafcffaaFloodJ
import Derived.Test.YtgcmklliafcffaaFloodI
import Derived.Test.YtgcmklliafcffaaFloodF
import Derived.Test.YtgcmklliafcffaaFloodS
import Derived.BigRegion
namespace Go.Proofs.Ytgcmklliafcffaa.LanP
open Go.RowKit Go.Sort Go.Proofs.Ytgcmklliafcffaa.SliceP Go.Proofs.Ytgcmklliafcffaa.BoxP
open Go.Proofs.Ytgcmklliafcffaa.IntP (RowI SlI OwnI)
open Go.Proofs.Ytgcmklliafcffaa.BoolP (RowB SlB OwnB)
open Go.Proofs.Ytgcmklliafcffaa.MacP (arr_out Wrote wp_region_ends outM)
set_option linter.unusedVariables false
set_option maxRecDepth 100000
set_option maxHeartbeats 16000000 in
theorem more_law {l : L} {A : Option Addr} {c : Nat} {B : Option Addr} {d : Nat} {w : World} {O : List (List Bool)} {C : Option Addr} {e : Nat} (hr : LanR w l A c B d) (hR : RowL bc w C O.length e O) (sg b0 k0 : Int) : Calls Try.prog 7 #[lv l A c B d, .slice C O.length e, .int .i64 sg, .int .i64 b0, .int .i64 k0] w (True1 w) := by
  obtain ⟨w0, hw0, X0, R0, B0⟩ := new3 w hr
  have hF := Lib.hid (o_few17 hr B0)
  have hsm := Lib.hid (few_small l)
  have hFR := Lib.hid (fun (W : World) (hW : Below w0.heap.size w0 W) => o_rows17 hR (bt B0 hW))
  have hol := Lib.hid (show (fewO O).length ≤ 1000 from Nat.le_trans (fewO_len O) (by omega))
  have hor := Lib.hid (show ∀ r ∈ fewO O, r.length ≤ 1000 from fun r h => Nat.le_trans (fewO_row h) (by omega))
  replace X0 := Lib.hid X0
  replace B0 := Lib.hid B0
  clear hr R0 hR
  go_enter Try.func7, Try.ntmps7
  go_upto_region 1 with fail
  rw [← hw0]
  clear hw0
  have x0 := X0.out.c (i := 0) rfl
  have x1 := X0.out.c (i := 1) rfl
  have x2 := X0.out.c (i := 2) rfl
  have zz := X0.out.lt
  go_wp2_with fail
  go_at_call 21
  (with_reducible refine hF.out.mono ?_)
  rintro e1 w1 ⟨A1, c1, rfl, hb1, hK⟩
  obtain ⟨m, hm⟩ : ∃ m, l.few = m := ⟨_, rfl⟩
  rw [hm] at hK hsm ⊢
  replace hm := Lib.hid hm
  clear x0 x1 x2 zz
  have X1 := Lib.hid (X0.out.below hb1)
  have B1 := Lib.hid (bt B0.out hb1)
  have z01 := Lib.hid (show w.heap.size < w0.heap.size ∧ w0.heap.size ≤ w1.heap.size from ⟨X0.out.lt, hb1.size⟩)
  have hFR1 := Lib.hid (hFR.out w1 hb1)
  replace hK := Lib.hid hK
  clear hb1 X0 B0 hF hFR
  go_wp2_with fail
  go_at_call 22
  (with_reducible refine hFR1.out.mono ?_)
  rintro e1 w9 ⟨C2, e2, rfl, hb9, hK2⟩
  obtain ⟨o, hoo⟩ : ∃ o, fewO O = o := ⟨_, rfl⟩
  rw [hoo] at hK2 hol hor ⊢
  replace hoo := Lib.hid hoo
  have X9 := Lib.hid (X1.out.below hb9)
  have B9 := Lib.hid (bt B1.out hb9)
  have x0 := X9.out.c (i := 0) rfl
  have x1 := X9.out.c (i := 1) rfl
  have x2 := X9.out.c (i := 2) rfl
  have f0 := X9.out.f 0
  have f1 := X9.out.f 1
  have f2 := X9.out.f 2
  have zz := X9.out.lt
  obtain ⟨w2, hw2⟩ : ∃ W, W = ((w9.setCell ⟨w.heap.size, 0, none⟩ (.int .i64 m.segs)).setCell ⟨w.heap.size, 1, none⟩ (.slice A1 m.plans.length c1)).setCell ⟨w.heap.size, 2, none⟩ (.slice B m.hosts.length d) := ⟨_, rfl⟩
  have X2 := Lib.hid (show Bx w2 w.heap.size 25 #[.int .i64 m.segs, .slice A1 m.plans.length c1, .slice B m.hosts.length d] by rw [hw2]; exact Bx.three X9.out)
  have B2 := Lib.hid (show Below w.heap.size w w2 by rw [hw2]; exact below3 B9.out (Nat.le_refl _) _ _ _)
  have hg2 : w9.grownBy w2 (some w.heap.size) := by rw [hw2]; exact ((setCell_grown _ _ _ _).trans (setCell_grown _ _ _ _)).trans (setCell_grown _ _ _ _)
  have R2 := Lib.hid (hK.out w.heap.size w2 z01.out.1 ((below_grown hb9).trans hg2) B2.out)
  have O2 := Lib.hid (hK2 w.heap.size w2 (Nat.lt_of_lt_of_le z01.out.1 z01.out.2) hg2 B2.out)
  go_upto_region 2 with fail
  rw [← hw2]
  have z2 := X2.out.lt
  clear hw2 hb9 hK hK2 hFR1 hg2 x0 x1 x2 f0 f1 f2 zz X1 X9 B1 B9
  by_cases hz : whyO m o [sg] = 0
  · have HZ := Lib.hid hz
    obtain ⟨hok, hrw, hin⟩ := whyO_zero hz
    clear hz
    have hsg0 := hin sg (List.mem_singleton.2 rfl)
    clear hin
    obtain ⟨a, ha9⟩ : ∃ a : Nat, sg = (a : Int) := ⟨sg.toNat, by omega⟩
    subst ha9
    obtain ⟨p, hp⟩ : ∃ p, m.op o = p := ⟨_, rfl⟩
    have pok : p.ok = true := by rw [← hp]; exact op_ok o hok
    have hpf := Lib.hid (ok_fit pok)
    have hps : p.segs = m.segs := by rw [← hp]; rfl
    have hsq := ok_segs hok
    have hnseg := Lib.hid hsq.2.2
    have h8s : m.segs ≤ 8 := hsq.2.1
    have hrl := Lib.hid (rows_len hrw)
    obtain ⟨mo, hmo⟩ : ∃ x, moreO b0 k0 o m.plans.length = x := ⟨_, rfl⟩
    obtain ⟨al, hal⟩ : ∃ x, allO m m.plans.length = x := ⟨_, rfl⟩
    have hwM := Lib.hid (show whyO m mo [(a : Int)] = 0 from whyO_in (by rw [hok, ← hmo, rowsB_more hrw]; rfl) (by intro x hx; rw [List.mem_singleton.1 hx]; exact hsg0))
    have hwA := Lib.hid (show whyO m al [(a : Int)] = 0 from whyO_in (by rw [hok, ← hal, rowsB_all]; rfl) (by intro x hx; rw [List.mem_singleton.1 hx]; exact hsg0))
    have hmoR := Lib.hid (show ∀ r ∈ mo, r.length ≤ 1000 from fun r h => by rw [← hmo] at h; exact moreO_row (m := m) b0 k0 hor.out h)
    have halR := Lib.hid (show ∀ r ∈ al, r.length ≤ 1000 from fun r h => by rw [← hal] at h; exact allO_row hsm.out (Nat.le_refl _) h)
    have hn8 := hsm.out.plans
    have hmoL := Lib.hid (show mo.length = m.plans.length by rw [← hmo, moreO_len])
    have halL := Lib.hid (show al.length = m.plans.length by rw [← hal, allO_len])
    obtain ⟨p2, hp2⟩ : ∃ p, m.op mo = p := ⟨_, rfl⟩
    have pok2 : p2.ok = true := by rw [← hp2]; exact op_ok mo hok
    have hpf2 := Lib.hid (ok_fit pok2)
    have hps2 : p2.segs = m.segs := by rw [← hp2]; rfl
    have hmd := Lib.hid (show ∀ t : Int, 0 ≤ t → t < m.segs → 0 ≤ p.dst (a : Int) t → 0 ≤ p2.dst (a : Int) t ∧ p2.dst (a : Int) t ≤ p.dst (a : Int) t from fun t t0 t1 h => by
      rw [← hp2, ← hmo, ← hp] at *; exact more_dst hok hrw b0 k0 hsg0.1 hsg0.2 t0 t1 h)
    obtain ⟨RS, hRS⟩ : ∃ P, stpR p (a : Int) = P := ⟨_, rfl⟩
    obtain ⟨RT, hRT⟩ : ∃ P, stpR p2 (a : Int) = P := ⟨_, rfl⟩
    obtain ⟨PT, hPT⟩ : ∃ P, m.part (a : Int) = P := ⟨_, rfl⟩
    have hPA := Lib.hid (show (m.op al).part (a : Int) = PT by rw [← hal, part_all]; exact hPT)
    have hst := Lib.hid (show ∀ x : Nat, (x : Int) < m.segs → RS[x]? = some (p.dst (a : Int) x) from fun x hx => by rw [← hRS]; exact stp_at hpf.out (by rw [hps]; exact hx))
    have hst2 := Lib.hid (show ∀ x : Nat, (x : Int) < m.segs → RT[x]? = some (p2.dst (a : Int) x) from fun x hx => by rw [← hRT]; exact stp_at hpf2.out (by rw [hps2]; exact hx))
    have l1 : RS.length = m.n := by rw [← hRS, stp_len, ← hp]; rfl
    have l2 : RT.length = m.n := by rw [← hRT, stp_len, ← hp2]; rfl
    have hll := Lib.hid (show RT.length = RS.length by omega)
    have hSg := Lib.hid (show (RS.length : Int) = m.segs by rw [l1]; exact hnseg.out)
    have hpl2 := Lib.hid (show PT.length ≤ 1000 by have := part_len m (a : Int); rw [hPT] at this; have := hnseg.out; omega)
    have han := Lib.hid (show a < m.n by have := hnseg.out; omega)
    have hmok := Lib.hid hok
    replace hmo := Lib.hid hmo
    replace hal := Lib.hid hal
    replace hp := Lib.hid hp
    replace hp2 := Lib.hid hp2
    replace hPT := Lib.hid hPT
    replace hRS := Lib.hid hRS
    replace hRT := Lib.hid hRT
    replace hrw := Lib.hid hrw
    replace hsg0 := Lib.hid hsg0
    clear hok pok pok2 hps hps2 hsq l1 l2
    have o_X_0 := X2.out.c (i := 0) rfl
    have o_X_1 := X2.out.c (i := 1) rfl
    have o_X_2 := X2.out.c (i := 2) rfl
    go_wp2_with fail
    clear o_X_0 o_X_1 o_X_2
    go_at_call 24
    (with_reducible refine (o_steps_ok R2.out hsm.out O2.out hol.out hor.out (a : Int) HZ.out).mono ?_)
    rw [hp.out, hRS.out]
    rintro e w201 ⟨AS, cS, rfl, rS, hb201⟩
    have X_w201 := Lib.hid (X2.out.below hb201)
    have R_w201 := Lib.hid (R2.out.below hb201)
    have O_w201 := Lib.hid (O2.out.below hb201)
    have S_w201 := Lib.hid (rS)
    have z0_w201 : w.heap.size < w201.heap.size := Nat.lt_of_lt_of_le z2 hb201.size
    clear X2 R2 O2 z2
    have BS := Lib.hid (bt B2.out hb201)
    have o_X_0 := X_w201.out.c (i := 0) rfl
    have o_X_1 := X_w201.out.c (i := 1) rfl
    have o_X_2 := X_w201.out.c (i := 2) rfl
    go_wp2_with fail
    clear o_X_0 o_X_1 o_X_2
    obtain ⟨bz, hbz0⟩ : ∃ b, b = w201.heap.size := ⟨_, rfl⟩
    replace hbz0 := Lib.hid hbz0
    go_loopw [13, 14, 50] (fun va vm i wr => ∃ (q : Nat) (ra rm : List (RwP Bool)), q ≤ m.plans.length ∧ i = .int .i64 q ∧ ra.map RwP.l = allO m q ∧ rm.map RwP.l = moreO b0 k0 o q ∧ Own wr bz 44 1 va (ra.map RwP.cells) ∧ Own wr bz 44 1 vm (rm.map RwP.cells) ∧ (∀ g, va.ownBlock = some g → vm.ownBlock ≠ some g) ∧ (∀ x ∈ ra, Own wr bz 4 1 (.slice x.A x.l.length x.c) (x.l.map bc)) ∧ (∀ x ∈ rm, Own wr bz 4 1 (.slice x.A x.l.length x.c) (x.l.map bc)) ∧ bz ≤ wr.heap.size ∧ Below w201.heap.size w201 wr) (fun _ _ i _ => m.plans.length - (intOf i).toNat)
    case atStart => exact ⟨0, [], [], by omega, rfl, rfl, rfl, Own.nil _ _ _ _, Own.nil _ _ _ _, (fun g h => by cases h), (fun x hx => by cases hx), (fun x hx => by cases hx), by rw [hbz0.out]; exact Nat.le_refl _, Below.refl _ _⟩
    case round =>
      obtain ⟨q, ra, rm, hq9, rfl, hLa, hLm, hoa, hom, hdj, hia, him, hsz, hb⟩ := hrel
      obtain ⟨wo, hwo⟩ : ∃ W, W = wr := ⟨_, rfl⟩
      subst hwo
      obtain ⟨A3, c3, hv3⟩ := own_form hoa
      subst hv3
      obtain ⟨A4, c4, hv4⟩ := own_form hom
      subst hv4
      have hla : ra.length = q := by have := congrArg List.length hLa; rw [List.length_map, allO_len] at this; exact this
      have hlm : rm.length = q := by have := congrArg List.length hLm; rw [List.length_map, moreO_len] at this; exact this
      by_cases hqn : q < m.plans.length
      · have hql : (q : Int) < (m.plans.length : Int) := by omega
        have hqo9 : q < o.length := by rw [hrl.out.1]; exact hqn
        have hqo : (q : Int) < (o.length : Int) := by omega
        have hqg : ¬ ((q : Int) ≥ (o.length : Int)) := by omega
        obtain ⟨p9, hp9⟩ : ∃ p, m.plans[q]? = some p := ⟨_, List.getElem?_eq_getElem hqn⟩
        obtain ⟨y, hy⟩ : ∃ y, o[q]? = some y := ⟨_, List.getElem?_eq_getElem hqo9⟩
        have hpp := Lib.hid (show pl m q = p9 by have := plan_get hqn; rw [hp9] at this; exact (Option.some.inj this).symm)
        have hyy := Lib.hid (show o.getD q [] = y by rw [List.getD_eq_getElem?_getD, hy]; rfl)
        have hyl := Lib.hid (hor.out y (List.mem_of_getElem? hy))
        have hp10 := hsm.out.ports p9 (List.mem_of_getElem? hp9)
        have X_wo := Lib.hid (X_w201.out.below hb)
        have R_wo := Lib.hid (R_w201.out.below hb)
        have O_wo := Lib.hid (O_w201.out.below hb)
        have S_wo := Lib.hid (S_w201.out.below hb)
        have z0_wo : w.heap.size < wo.heap.size := Nat.lt_of_lt_of_le z0_w201 hb.size
        obtain ⟨bS8, oS8, A8, c8, hAS8, hbS8, q8_0, q8_1, hrow8⟩ := RowP.at_ (R_wo.out).plans hp9
        have XL := X_wo.out
        obtain ⟨b5, o5, A6, c6, hCC, hb5, u0, ROW⟩ := (O_wo.out).at_ hy
        subst hAS8; subst hCC
        obtain ⟨w8, hw8⟩ : ∃ W, W = wo.alloc (.cells #[.int .i64 p9.id, .slice A8 p9.ports.length c8] 60) := ⟨_, rfl⟩
        obtain ⟨b7, hb7⟩ : ∃ b, b = wo.heap.size := ⟨_, rfl⟩
        have bb8 : Below wo.heap.size wo w8 := by rw [hw8]; exact (Below.refl _ _).alloc (Nat.le_refl _) _
        have X8 := Lib.hid (show Bx w8 b7 60 #[.int .i64 p9.id, .slice A8 p9.ports.length c8] by rw [hw8]; exact Bx.new _ _ _ hb7.symm)
        have B8 := Lib.hid bb8
        have hz8 := Lib.hid (show bz ≤ w8.heap.size from Nat.le_trans hsz bb8.size)
        have U8 := Lib.hid (bb8.cell (p := ⟨b5, o5 + q, none⟩) hb5 |>.trans u0)
        have HB5 := Lib.hid (Nat.lt_of_lt_of_le hb5 bb8.size)
        have ROW8 := Lib.hid (ROW.below bb8)
        replace hLa := Lib.hid hLa
        replace hLm := Lib.hid hLm
        replace hoa := Lib.hid hoa
        replace hom := Lib.hid hom
        replace hdj := Lib.hid hdj
        replace hia := Lib.hid hia
        replace him := Lib.hid him
        replace hsz := Lib.hid hsz
        replace hp9 := Lib.hid hp9
        replace hy := Lib.hid hy
        replace hla := Lib.hid hla
        replace hlm := Lib.hid hlm
        replace hb := Lib.hid hb
        clear hrow8 bb8 u0 hb5 ROW XL
        go_upto_region 9 with fail
        rw [← hw8, ← hb7]
        clear hw8 hb7 q8_0 q8_1 hbS8
        have o0 := X8.out.c (i := 0) rfl
        have o1 := X8.out.c (i := 1) rfl
        have zz8 := X8.out.lt
        go_wp2_with fail
        clear o0 o1 zz8 hqg
        go_loopw [17, 62] (fun v i wr => ∃ j : Nat, j ≤ p9.ports.length ∧ i = .int .i64 j ∧ Own wr w8.heap.size 4 1 v ((allR j).map bc) ∧ Below w8.heap.size w8 wr) (fun _ i _ => p9.ports.length - (intOf i).toNat)
        case atStart => exact ⟨0, by omega, rfl, Own.nil _ _ _ _, Below.refl _ _⟩
        case round =>
          obtain ⟨j, hj, rfl, hoR, hbj⟩ := hrel
          obtain ⟨wj, hwj⟩ : ∃ W, W = wr := ⟨_, rfl⟩
          subst hwj
          obtain ⟨A5, c5, hv5⟩ := own_form hoR
          rw [allR_len] at hv5
          subst hv5
          replace hbj := Lib.hid hbj
          have oR := Lib.hid hoR
          clear hoR
          by_cases hjn : j < p9.ports.length
          · have hjl : (j : Int) < (p9.ports.length : Int) := by omega
            obtain ⟨w9, hw9⟩ : ∃ W, W = wj.alloc (.cells #[.bool true] 4) := ⟨_, rfl⟩
            have b9 : Below wj.heap.size wj w9 := by rw [hw9]; exact (Below.refl _ _).alloc (Nat.le_refl _) _
            have hsl := Lib.hid (show Sl w9 1 (some ⟨wj.heap.size, 0, none⟩) ([true].map bc) by rw [hw9]; exact BoolP.SlB.one wj true wj.heap.size rfl)
            have own9 := Lib.hid (oR.out.below b9)
            have hb9 := Lib.hid (bt hbj.out b9)
            have hn1 : Hid (((allR j).map bc).length + ([true].map bc).length ≤ 1000000) := Lib.hid (by rw [List.length_map, allR_len]; simp; omega)
            have hvl : Hid (((allR j).map bc).length = (allR j).length) := Lib.hid (List.length_map ..)
            have hB2 : Hid (w8.heap.size ≤ w9.heap.size) := Lib.hid hb9.out.size
            clear b9
            go_wp2_with (at_builtin; rw [← hw9]; (refine wpList_append_sl rfl (.tmp 64) (.tmp 65) 44 rfl BoolP.elB (by rfl) own9.out (by rfl) (by rfl) hsl.out (BoolP.whole [true]) (fun h => by cases h) hn1.out hB2.out ?_); intro v' w4 own1 grow1 _)
            have b4 : Below w8.heap.size w8 w4 := hb9.out.grown grow1 hB2.out (fun j hj => (own9.out.lt j hj).1)
            go_roundw
            case rel => exact ⟨j + 1, by omega, by go_num, by rw [allR_succ, List.map_append]; exact own1, b4⟩
            case measure => simp [intOf]; omega
          · obtain rfl : j = p9.ports.length := by omega
            have hge : ¬ ((p9.ports.length : Int) < (p9.ports.length : Int)) := by omega
            have U9 := ((hbj.out).cell (p := ⟨b5, o5 + q, none⟩) HB5.out).trans U8.out
            have z9 := Nat.lt_of_lt_of_le HB5.out hbj.out.size
            have ROW9 := Lib.hid (ROW8.out.below hbj.out)
            have hyl9 := hyl.out
            obtain ⟨wk, hwk⟩ : ∃ W, W = wj := ⟨_, rfl⟩
            subst hwk
            go_wp2_with fail
            clear U9 z9 hge
            go_loopw [18, 73] (fun v i wr => ∃ j : Nat, j ≤ y.length ∧ i = .int .i64 j ∧ Own wr wk.heap.size 4 1 v ((moreR b0 k0 q y j).map bc) ∧ Below wk.heap.size wk wr) (fun _ i _ => y.length - (intOf i).toNat)
            case atStart => exact ⟨0, by omega, rfl, Own.nil _ _ _ _, Below.refl _ _⟩
            case round =>
              have oA := Lib.hid oR.out
              have hbk := Lib.hid hbj.out
              clear oR hbj
              obtain ⟨j, hj, rfl, hoR, hbj⟩ := hrel
              obtain ⟨wj, hwj⟩ : ∃ W, W = wr := ⟨_, rfl⟩
              subst hwj
              obtain ⟨A7, c7, hv7⟩ := own_form hoR
              rw [moreR_len] at hv7
              subst hv7
              replace hbj := Lib.hid hbj
              have oR := Lib.hid hoR
              clear hoR
              by_cases hjn : j < y.length
              · have hjl : (j : Int) < (y.length : Int) := by omega
                obtain ⟨vo, hyj⟩ : ∃ v, y[j]? = some v := ⟨_, List.getElem?_eq_getElem hjn⟩
                have hgd : y.getD j false = vo := by rw [List.getD_eq_getElem?_getD, hyj]; rfl
                obtain ⟨b6, o6, hA6, hb6, u3⟩ := (ROW9.out.below hbj.out).bat hyj
                subst hA6
                have hsu := moreR_succ b0 k0 q y j
                rw [hgd] at hsu
                replace hyj := Lib.hid hyj
                replace hgd := Lib.hid hgd
                cases vo
                · by_cases e1 : (q : Int) = b0
                  · have e1b : ((q : Int) == b0) = true := by simpa using e1
                    by_cases e2 : (j : Int) = k0
                    · have e2b : ((j : Int) == k0) = true := by simpa using e2
                      rw [decide_eq_true e1, decide_eq_true e2] at hsu
                      have hsu9 := Lib.hid (show moreR b0 k0 q y (j + 1) = moreR b0 k0 q y j ++ [true] from hsu)
                      replace e1 := Lib.hid e1
                      replace e2 := Lib.hid e2
                      clear hsu
                      obtain ⟨w9, hw9⟩ : ∃ W, W = wj.alloc (.cells #[.bool true] 4) := ⟨_, rfl⟩
                      have b9 : Below wj.heap.size wj w9 := by rw [hw9]; exact (Below.refl _ _).alloc (Nat.le_refl _) _
                      have hsl := Lib.hid (show Sl w9 1 (some ⟨wj.heap.size, 0, none⟩) ([true].map bc) by rw [hw9]; exact BoolP.SlB.one wj true wj.heap.size rfl)
                      have own9 := Lib.hid (oR.out.below b9)
                      have hb9 := Lib.hid (bt hbj.out b9)
                      have hn1 : Hid (((moreR b0 k0 q y j).map bc).length + ([true].map bc).length ≤ 1000000) := Lib.hid (by rw [List.length_map, moreR_len]; simp; omega)
                      have hvl : Hid (((moreR b0 k0 q y j).map bc).length = (moreR b0 k0 q y j).length) := Lib.hid (List.length_map ..)
                      have hB2 : Hid (wk.heap.size ≤ w9.heap.size) := Lib.hid hb9.out.size
                      clear b9
                      go_wp2_with (at_builtin; rw [← hw9]; (refine wpList_append_sl rfl (.tmp 78) (.tmp 90) 44 rfl BoolP.elB (by rfl) own9.out (by rfl) (by rfl) hsl.out (BoolP.whole [true]) (fun h => by cases h) hn1.out hB2.out ?_); intro v' w4 own1 grow1 _)
                      have b4 : Below wk.heap.size wk w4 := hb9.out.grown grow1 hB2.out (fun j hj => (own9.out.lt j hj).1)
                      go_roundw
                      case rel => exact ⟨j + 1, by omega, by go_num, by rw [hsu9.out, List.map_append]; exact own1, b4⟩
                      case measure => simp [intOf]; omega
                    · have e2b : ((j : Int) == k0) = false := by simpa using e2
                      rw [decide_eq_true e1, decide_eq_false e2] at hsu
                      have hsu9 := Lib.hid (show moreR b0 k0 q y (j + 1) = moreR b0 k0 q y j ++ [false] from hsu)
                      replace e1 := Lib.hid e1
                      replace e2 := Lib.hid e2
                      clear hsu
                      obtain ⟨w9, hw9⟩ : ∃ W, W = wj.alloc (.cells #[.bool false] 4) := ⟨_, rfl⟩
                      have b9 : Below wj.heap.size wj w9 := by rw [hw9]; exact (Below.refl _ _).alloc (Nat.le_refl _) _
                      have hsl := Lib.hid (show Sl w9 1 (some ⟨wj.heap.size, 0, none⟩) ([false].map bc) by rw [hw9]; exact BoolP.SlB.one wj false wj.heap.size rfl)
                      have own9 := Lib.hid (oR.out.below b9)
                      have hb9 := Lib.hid (bt hbj.out b9)
                      have hn1 : Hid (((moreR b0 k0 q y j).map bc).length + ([false].map bc).length ≤ 1000000) := Lib.hid (by rw [List.length_map, moreR_len]; simp; omega)
                      have hvl : Hid (((moreR b0 k0 q y j).map bc).length = (moreR b0 k0 q y j).length) := Lib.hid (List.length_map ..)
                      have hB2 : Hid (wk.heap.size ≤ w9.heap.size) := Lib.hid hb9.out.size
                      clear b9
                      go_wp2_with (at_builtin; rw [← hw9]; (refine wpList_append_sl rfl (.tmp 78) (.tmp 90) 44 rfl BoolP.elB (by rfl) own9.out (by rfl) (by rfl) hsl.out (BoolP.whole [false]) (fun h => by cases h) hn1.out hB2.out ?_); intro v' w4 own1 grow1 _)
                      have b4 : Below wk.heap.size wk w4 := hb9.out.grown grow1 hB2.out (fun j hj => (own9.out.lt j hj).1)
                      go_roundw
                      case rel => exact ⟨j + 1, by omega, by go_num, by rw [hsu9.out, List.map_append]; exact own1, b4⟩
                      case measure => simp [intOf]; omega
                  · have e1b : ((q : Int) == b0) = false := by simpa using e1
                    rw [decide_eq_false e1] at hsu
                    have hsu9 := Lib.hid (show moreR b0 k0 q y (j + 1) = moreR b0 k0 q y j ++ [false] from hsu)
                    replace e1 := Lib.hid e1
                    clear hsu
                    obtain ⟨w9, hw9⟩ : ∃ W, W = wj.alloc (.cells #[.bool false] 4) := ⟨_, rfl⟩
                    have b9 : Below wj.heap.size wj w9 := by rw [hw9]; exact (Below.refl _ _).alloc (Nat.le_refl _) _
                    have hsl := Lib.hid (show Sl w9 1 (some ⟨wj.heap.size, 0, none⟩) ([false].map bc) by rw [hw9]; exact BoolP.SlB.one wj false wj.heap.size rfl)
                    have own9 := Lib.hid (oR.out.below b9)
                    have hb9 := Lib.hid (bt hbj.out b9)
                    have hn1 : Hid (((moreR b0 k0 q y j).map bc).length + ([false].map bc).length ≤ 1000000) := Lib.hid (by rw [List.length_map, moreR_len]; simp; omega)
                    have hvl : Hid (((moreR b0 k0 q y j).map bc).length = (moreR b0 k0 q y j).length) := Lib.hid (List.length_map ..)
                    have hB2 : Hid (wk.heap.size ≤ w9.heap.size) := Lib.hid hb9.out.size
                    clear b9
                    go_wp2_with (at_builtin; rw [← hw9]; (refine wpList_append_sl rfl (.tmp 78) (.tmp 90) 44 rfl BoolP.elB (by rfl) own9.out (by rfl) (by rfl) hsl.out (BoolP.whole [false]) (fun h => by cases h) hn1.out hB2.out ?_); intro v' w4 own1 grow1 _)
                    have b4 : Below wk.heap.size wk w4 := hb9.out.grown grow1 hB2.out (fun j hj => (own9.out.lt j hj).1)
                    go_roundw
                    case rel => exact ⟨j + 1, by omega, by go_num, by rw [hsu9.out, List.map_append]; exact own1, b4⟩
                    case measure => simp [intOf]; omega
                · have hsu9 := Lib.hid (show moreR b0 k0 q y (j + 1) = moreR b0 k0 q y j ++ [true] from hsu)
                  clear hsu
                  obtain ⟨w9, hw9⟩ : ∃ W, W = wj.alloc (.cells #[.bool true] 4) := ⟨_, rfl⟩
                  have b9 : Below wj.heap.size wj w9 := by rw [hw9]; exact (Below.refl _ _).alloc (Nat.le_refl _) _
                  have hsl := Lib.hid (show Sl w9 1 (some ⟨wj.heap.size, 0, none⟩) ([true].map bc) by rw [hw9]; exact BoolP.SlB.one wj true wj.heap.size rfl)
                  have own9 := Lib.hid (oR.out.below b9)
                  have hb9 := Lib.hid (bt hbj.out b9)
                  have hn1 : Hid (((moreR b0 k0 q y j).map bc).length + ([true].map bc).length ≤ 1000000) := Lib.hid (by rw [List.length_map, moreR_len]; simp; omega)
                  have hvl : Hid (((moreR b0 k0 q y j).map bc).length = (moreR b0 k0 q y j).length) := Lib.hid (List.length_map ..)
                  have hB2 : Hid (wk.heap.size ≤ w9.heap.size) := Lib.hid hb9.out.size
                  clear b9
                  go_wp2_with (at_builtin; rw [← hw9]; (refine wpList_append_sl rfl (.tmp 78) (.tmp 90) 44 rfl BoolP.elB (by rfl) own9.out (by rfl) (by rfl) hsl.out (BoolP.whole [true]) (fun h => by cases h) hn1.out hB2.out ?_); intro v' w4 own1 grow1 _)
                  have b4 : Below wk.heap.size wk w4 := hb9.out.grown grow1 hB2.out (fun j hj => (own9.out.lt j hj).1)
                  go_roundw
                  case rel => exact ⟨j + 1, by omega, by go_num, by rw [hsu9.out, List.map_append]; exact own1, b4⟩
                  case measure => simp [intOf]; omega
              · obtain rfl : j = y.length := by omega
                have hge : ¬ ((y.length : Int) < (y.length : Int)) := by omega
                have bwj : Below wo.heap.size wo wj := bt B8.out (bt hbk.out hbj.out)
                obtain ⟨xa, hxa⟩ : ∃ x : RwP Bool, x = ⟨allR p9.ports.length, A5, c5⟩ := ⟨_, rfl⟩
                obtain ⟨xm, hxm⟩ : ∃ x : RwP Bool, x = ⟨moreR b0 k0 q y y.length, A7, c7⟩ := ⟨_, rfl⟩
                have hxac := Lib.hid (show RwP.cells xa = [.slice A5 p9.ports.length c5] by rw [hxa]; unfold RwP.cells; rw [allR_len])
                have hxmc := Lib.hid (show RwP.cells xm = [.slice A7 y.length c7] by rw [hxm]; unfold RwP.cells; rw [moreR_len])
                obtain ⟨w9, hw9⟩ : ∃ W, W = wj.alloc (.cells #[.slice A5 p9.ports.length c5] 44) := ⟨_, rfl⟩
                have b9 : Below wj.heap.size wj w9 := by rw [hw9]; exact (Below.refl _ _).alloc (Nat.le_refl _) _
                have hsl := Lib.hid (show Sl w9 1 (some ⟨wj.heap.size, 0, none⟩) ([xa].map RwP.cells) from bx_sl (T := 44) (vals := #[.slice A5 p9.ports.length c5]) (by rw [hw9]; exact Bx.new _ _ _ rfl) (by show _ = (RwP.cells _ ++ []); rw [hxac.out]; rfl) (by intro cc hcc; simp at hcc; subst hcc; rfl))
                have bo9 := bt bwj b9
                have oa9 := Lib.hid (hoa.out.below bo9)
                have om9 := Lib.hid (hom.out.below bo9)
                have ia9 := Lib.hid (fun x hx => (hia.out x hx).below bo9)
                have im9 := Lib.hid (fun x hx => (him.out x hx).below bo9)
                have oA9 := Lib.hid (show Own w9 bz 4 1 (.slice xa.A xa.l.length xa.c) (xa.l.map bc) by rw [hxa]; simp only [allR_len]; exact ((oA.out.below hbj.out).below b9).base hz8.out)
                have oM9 := Lib.hid (show Own w9 bz 4 1 (.slice xm.A xm.l.length xm.c) (xm.l.map bc) by rw [hxm]; simp only [moreR_len]; exact (oR.out.below b9).base (Nat.le_trans hz8.out hbk.out.size))
                have hB9 := Lib.hid (show bz ≤ w9.heap.size from Nat.le_trans hsz.out bo9.size)
                have hbB := Lib.hid (bt hb.out bo9)
                have hn1 : Hid ((ra.map RwP.cells).length + ([xa].map RwP.cells).length ≤ 1000000) := Lib.hid (by rw [List.length_map]; have := hla.out; simp; omega)
                have hvl : Hid ((ra.map RwP.cells).length = ra.length) := Lib.hid (List.length_map ..)
                have hn2 : Hid ((rm.map RwP.cells).length + ([xm].map RwP.cells).length ≤ 1000000) := Lib.hid (by rw [List.length_map]; have := hlm.out; simp; omega)
                have hvm : Hid ((rm.map RwP.cells).length = rm.length) := Lib.hid (List.length_map ..)
                replace hxa := Lib.hid hxa
                replace hxm := Lib.hid hxm
                clear b9 bo9 bwj
                go_wp2_with (first
                  | (at_builtin
                     rw [← hw9]
                     (refine wpList_append_sl rfl (.tmp 93) (.tmp 95) 36 rfl elRB17 (by rfl) oa9.out (by rfl) (by rfl) hsl.out (wholeR _) (fun h => by cases h) hn1.out hB9.out ?_)
                     intro v' w4 own1 grow1 new1
                     clear hw9
                     have tw := two_rows oa9.out om9.out hdj.out own1 grow1 new1
                     obtain ⟨w5, hw5⟩ : ∃ W, W = w4.alloc (.cells #[.slice A7 y.length c7] 44) := ⟨_, rfl⟩
                     have b5 : Below w4.heap.size w4 w5 := by rw [hw5]; exact (Below.refl _ _).alloc (Nat.le_refl _) _
                     have hsl2 := Lib.hid (show Sl w5 1 (some ⟨w4.heap.size, 0, none⟩) ([xm].map RwP.cells) from bx_sl (T := 44) (vals := #[.slice A7 y.length c7]) (by rw [hw5]; exact Bx.new _ _ _ rfl) (by show _ = (RwP.cells _ ++ []); rw [hxmc.out]; rfl) (by intro cc hcc; simp at hcc; subst hcc; rfl))
                     have om5 := Lib.hid (tw.1.below b5)
                     have oa5 := Lib.hid (own1.below b5)
                     have dj5 := Lib.hid tw.2
                     have ia5 := Lib.hid (fun x hx => (keep_row (ia9.out x hx) oa9.out grow1).below b5)
                     have im5 := Lib.hid (fun x hx => (keep_row (im9.out x hx) oa9.out grow1).below b5)
                     have oA5 := Lib.hid ((keep_row oA9.out oa9.out grow1).below b5)
                     have oM5 := Lib.hid ((keep_row oM9.out oa9.out grow1).below b5)
                     have b94 : Below w201.heap.size w201 w4 := hbB.out.grown grow1 hbB.out.size (fun j hj => by have := (oa9.out.lt j hj).1; rw [hbz0.out] at this; exact this)
                     have hbB5 := Lib.hid (bt b94 b5)
                     have hB5 := Lib.hid (show bz ≤ w5.heap.size from Nat.le_trans hB9.out (Nat.le_trans grow1.size b5.size))
                     clear tw own1 grow1 new1 b5 b94)
                  | (at_builtin
                     rw [← hw5]
                     (refine wpList_append_sl rfl (.tmp 97) (.tmp 99) 36 rfl elRB17 (by rfl) om5.out (by rfl) (by rfl) hsl2.out (wholeR _) (fun h => by cases h) hn2.out hB5.out ?_)
                     intro v'' w6 own2 grow2 new2
                     clear hw5))
                have tw := two_rows om5.out oa5.out dj5.out own2 grow2 new2
                have b6 : Below w201.heap.size w201 w6 := hbB5.out.grown grow2 hbB5.out.size (fun j hj => by have := (om5.out.lt j hj).1; rw [hbz0.out] at this; exact this)
                have hsz6 := Nat.le_trans hB5.out grow2.size
                have hLa6 : (ra ++ [xa]).map RwP.l = allO m (q + 1) := by rw [List.map_append, hLa.out, allO_succ, hpp.out, hxa.out]; rfl
                have hLm6 : (rm ++ [xm]).map RwP.l = moreO b0 k0 o (q + 1) := by rw [List.map_append, hLm.out, moreO_succ, hyy.out, hxm.out]; rfl
                have hia6 : ∀ x ∈ ra ++ [xa], Own w6 bz 4 1 (.slice x.A x.l.length x.c) (x.l.map bc) := fun x hx => by
                  rcases List.mem_append.1 hx with hx | hx
                  · exact keep_row (ia5.out x hx) om5.out grow2
                  · obtain rfl := List.mem_singleton.1 hx; exact keep_row oA5.out om5.out grow2
                have him6 : ∀ x ∈ rm ++ [xm], Own w6 bz 4 1 (.slice x.A x.l.length x.c) (x.l.map bc) := fun x hx => by
                  rcases List.mem_append.1 hx with hx | hx
                  · exact keep_row (im5.out x hx) om5.out grow2
                  · obtain rfl := List.mem_singleton.1 hx; exact keep_row oM5.out om5.out grow2
                have oa6 := own_snoc tw.1
                have om6 := own_snoc own2
                have dj6 := tw.2
                clear tw own2 grow2 new2
                go_roundw
                case rel => exact ⟨q + 1, ra ++ [xa], rm ++ [xm], by omega, by go_num, hLa6, hLm6, oa6, om6, dj6, hia6, him6, hsz6, b6⟩
                case measure => simp [intOf]; omega
      · obtain rfl : q = m.plans.length := by omega
        rw [hal.out] at hLa
        rw [hmo.out] at hLm
        have hra : ra.length = al.length := by rw [halL.out]; exact hla
        have hrm : rm.length = mo.length := by rw [hmoL.out]; exact hlm
        have RA := Lib.hid (show RowL bc wo A3 al.length c3 al by have h := RowL.new hoa (fun x hx => Row.own (hia x hx) (by decide)); rw [hLa, hra] at h; exact h)
        have RM := Lib.hid (show RowL bc wo A4 mo.length c4 mo by have h := RowL.new hom (fun x hx => Row.own (him x hx) (by decide)); rw [hLm, hrm] at h; exact h)
        have BSo := Lib.hid (bt BS.out hb)
        have hge : ¬ ((m.plans.length : Int) < (m.plans.length : Int)) := by omega
        have hmoS := Lib.hid (show mo.length ≤ 1000 by have := hmoL.out; omega)
        have halS := Lib.hid (show al.length ≤ 1000 by have := halL.out; omega)
        rw [hra, hrm]
        replace hra := Lib.hid hra
        replace hrm := Lib.hid hrm
        replace hLa := Lib.hid hLa
        replace hLm := Lib.hid hLm
        replace hla := Lib.hid hla
        replace hlm := Lib.hid hlm
        clear hoa hom hdj hia him hsz
        have X_wo := Lib.hid (X_w201.out.below hb)
        have R_wo := Lib.hid (R_w201.out.below hb)
        have O_wo := Lib.hid (O_w201.out.below hb)
        have S_wo := Lib.hid (S_w201.out.below hb)
        have z0_wo : w.heap.size < wo.heap.size := Nat.lt_of_lt_of_le z0_w201 hb.size
        have hb9 : Below wo.heap.size wo wo := Below.refl _ _
        clear hb
        have o_X_0 := X_wo.out.c (i := 0) rfl
        have o_X_1 := X_wo.out.c (i := 1) rfl
        have o_X_2 := X_wo.out.c (i := 2) rfl
        go_wp2_with fail
        clear o_X_0 o_X_1 o_X_2
        go_at_call 24
        (with_reducible refine (o_steps_ok R_wo.out hsm.out RM.out hmoS.out hmoR.out (a : Int) hwM.out).mono ?_)
        rw [hp2.out, hRT.out]
        rintro e w501 ⟨AT, cT, rfl, rT, hb501⟩
        have X_w501 := Lib.hid (X_wo.out.below hb501)
        have R_w501 := Lib.hid (R_wo.out.below hb501)
        have O_w501 := Lib.hid (O_wo.out.below hb501)
        have S_w501 := Lib.hid (S_wo.out.below hb501)
        have AL_w501 := Lib.hid (RA.out.below hb501)
        have MO_w501 := Lib.hid (RM.out.below hb501)
        have T_w501 := Lib.hid (rT)
        have z0_w501 : w.heap.size < w501.heap.size := Nat.lt_of_lt_of_le z0_wo hb501.size
        have B_w501 := bt hb9 hb501
        clear X_wo R_wo O_wo S_wo RA RM z0_wo hb9 hb501
        have o_X_0 := X_w501.out.c (i := 0) rfl
        have o_X_1 := X_w501.out.c (i := 1) rfl
        have o_X_2 := X_w501.out.c (i := 2) rfl
        go_wp2_with fail
        clear o_X_0 o_X_1 o_X_2
        go_at_call 23
        (with_reducible refine (o_reach_ok R_w501.out hsm.out AL_w501.out halS.out halR.out (a : Int) hwA.out).mono ?_)
        rw [hPA.out]
        rintro e w502 ⟨AB, cB, rfl, rB, hb502⟩
        have X_w502 := Lib.hid (X_w501.out.below hb502)
        have R_w502 := Lib.hid (R_w501.out.below hb502)
        have O_w502 := Lib.hid (O_w501.out.below hb502)
        have S_w502 := Lib.hid (S_w501.out.below hb502)
        have AL_w502 := Lib.hid (AL_w501.out.below hb502)
        have MO_w502 := Lib.hid (MO_w501.out.below hb502)
        have T_w502 := Lib.hid (T_w501.out.below hb502)
        have PB_w502 := Lib.hid (rB)
        have z0_w502 : w.heap.size < w502.heap.size := Nat.lt_of_lt_of_le z0_w501 hb502.size
        have B_w502 := bt B_w501 hb502
        clear X_w501 R_w501 O_w501 S_w501 AL_w501 MO_w501 T_w501 z0_w501 B_w501 hb502
        have o_X_0 := X_w502.out.c (i := 0) rfl
        have o_X_1 := X_w502.out.c (i := 1) rfl
        have o_X_2 := X_w502.out.c (i := 2) rfl
        go_wp2_with fail
        clear o_X_0 o_X_1 o_X_2
        go_at_call 35
        (with_reducible refine (o_part_ok R_w502.out hsm.out hmok.out han.out).mono ?_)
        rw [hPT.out]
        rintro e w503 ⟨AQ, cQ, rfl, rQ, hb503⟩
        have X_w503 := Lib.hid (X_w502.out.below hb503)
        have R_w503 := Lib.hid (R_w502.out.below hb503)
        have O_w503 := Lib.hid (O_w502.out.below hb503)
        have S_w503 := Lib.hid (S_w502.out.below hb503)
        have AL_w503 := Lib.hid (AL_w502.out.below hb503)
        have MO_w503 := Lib.hid (MO_w502.out.below hb503)
        have T_w503 := Lib.hid (T_w502.out.below hb503)
        have PB_w503 := Lib.hid (PB_w502.out.below hb503)
        have Q_w503 := Lib.hid (rQ)
        have z0_w503 : w.heap.size < w503.heap.size := Nat.lt_of_lt_of_le z0_w502 hb503.size
        have B_w503 := bt B_w502 hb503
        clear X_w502 R_w502 O_w502 S_w502 AL_w502 MO_w502 T_w502 PB_w502 z0_w502 B_w502 hb503
        have hllb : ((RS.length : Int) != (RT.length : Int)) = false := by rw [hll.out]; simp
        have o_X_0 := X_w503.out.c (i := 0) rfl
        have o_X_1 := X_w503.out.c (i := 1) rfl
        have o_X_2 := X_w503.out.c (i := 2) rfl
        go_wp2_with fail
        clear o_X_0 o_X_1 o_X_2
        go_at_call 31
        (with_reducible refine (r_same PB_w503.out Q_w503.out hpl2.out (decide_eq_true rfl)).mono ?_)
        rintro e w504 ⟨rfl, hb504⟩
        have X_w504 := Lib.hid (X_w503.out.below hb504)
        have R_w504 := Lib.hid (R_w503.out.below hb504)
        have O_w504 := Lib.hid (O_w503.out.below hb504)
        have S_w504 := Lib.hid (S_w503.out.below hb504)
        have AL_w504 := Lib.hid (AL_w503.out.below hb504)
        have MO_w504 := Lib.hid (MO_w503.out.below hb504)
        have T_w504 := Lib.hid (T_w503.out.below hb504)
        have PB_w504 := Lib.hid (PB_w503.out.below hb504)
        have Q_w504 := Lib.hid (Q_w503.out.below hb504)
        have z0_w504 : w.heap.size < w504.heap.size := Nat.lt_of_lt_of_le z0_w503 hb504.size
        have B_w504 := bt B_w503 hb504
        clear X_w503 R_w503 O_w503 S_w503 AL_w503 MO_w503 T_w503 PB_w503 Q_w503 z0_w503 B_w503 hb504
        have o_X_0 := X_w504.out.c (i := 0) rfl
        have o_X_1 := X_w504.out.c (i := 1) rfl
        have o_X_2 := X_w504.out.c (i := 2) rfl
        go_wp2_with fail
        clear o_X_0 o_X_1 o_X_2
        go_at_call 29
        (with_reducible refine (o_alive17 _).mono ?_)
        rintro e w505 ⟨rfl, hb505⟩
        have X_w505 := Lib.hid (X_w504.out.below hb505)
        have R_w505 := Lib.hid (R_w504.out.below hb505)
        have O_w505 := Lib.hid (O_w504.out.below hb505)
        have S_w505 := Lib.hid (S_w504.out.below hb505)
        have AL_w505 := Lib.hid (AL_w504.out.below hb505)
        have MO_w505 := Lib.hid (MO_w504.out.below hb505)
        have T_w505 := Lib.hid (T_w504.out.below hb505)
        have PB_w505 := Lib.hid (PB_w504.out.below hb505)
        have Q_w505 := Lib.hid (Q_w504.out.below hb505)
        have z0_w505 : w.heap.size < w505.heap.size := Nat.lt_of_lt_of_le z0_w504 hb505.size
        have B_w505 := bt B_w504 hb505
        clear X_w504 R_w504 O_w504 S_w504 AL_w504 MO_w504 T_w504 PB_w504 Q_w504 z0_w504 B_w504 hb505
        go_wp2_with fail
        clear hllb
        go_loopw [151] (fun i wr => ∃ k : Nat, k ≤ RS.length ∧ i = .int .i64 k ∧ Below w505.heap.size w505 wr) (fun i _ => RS.length - (intOf i).toNat)
        case atStart => exact ⟨0, by omega, rfl, Below.refl _ _⟩
        case round =>
          obtain ⟨k, hk, rfl, hb⟩ := hrel
          obtain ⟨wo2, hwo2⟩ : ∃ W, W = wr := ⟨_, rfl⟩
          subst hwo2
          by_cases hkn : k < RS.length
          · have hkl : (k : Int) < (RS.length : Int) := by omega
            have hks : (k : Int) < m.segs := by rw [← hSg.out]; exact hkl
            have hk8 : k < 8 := by omega
            have hkt : (k : Int) < (RT.length : Int) := by rw [hll.out]; exact hkl
            have h1 := hst.out k hks
            have h2 := hst2.out k hks
            have h3 := hmd.out (k : Int) (by omega) hks
            obtain ⟨d1, hd1⟩ : ∃ d, p.dst (a : Int) k = d := ⟨_, rfl⟩
            obtain ⟨d2, hd2⟩ : ∃ d, p2.dst (a : Int) k = d := ⟨_, rfl⟩
            rw [hd1] at h1 h3
            rw [hd2] at h2 h3
            replace hd1 := Lib.hid hd1
            replace hd2 := Lib.hid hd2
            obtain ⟨g5, o5, hA5, hg5, j1⟩ := (S_w505.out.below hb).iat h1
            obtain ⟨g6, o6, hA6, hg6, j2⟩ := (T_w505.out.below hb).iat h2
            subst hA5; subst hA6
            replace h1 := Lib.hid h1
            replace h2 := Lib.hid h2
            have hb9' := Lib.hid hb
            clear hb hks
            go_upto_region 31 with fail
            by_cases hd : 0 ≤ d1
            · obtain ⟨h4, h5⟩ := h3 hd
              have h6 : ¬ (d2 < 0) := by omega
              have h7 : ¬ (d1 < d2) := by omega
              have h8 : ¬ (d2 > d1) := by omega
              have K0 := cell_regrown j1
              have K1 := cell_regrown j2
              refine wp_region_quiet_below (by kernel_rfl) (by kernel_rfl) ?_
              repeat (first | go_big_quiet_step (fail) | quiet_step (fail))
              refine wpQuiet_nil ?_
              intro _ hw'
              obtain ⟨⟨dq, osq⟩, hw''⟩ := hw'
              subst hw''
              have hq9 := below_regrown wo2 dq osq
              clear K0 K1 j1 j2 hg5 hg6
              generalize Go.Sort.grow (redrawn wo2 dq) osq = w9 at *
              have b9 := Lib.hid (bt hb9'.out hq9)
              clear hq9
              go_wp2_with fail
              go_roundw
              case rel => exact ⟨k + 1, by omega, by go_num, b9.out⟩
              case measure => simp [intOf]; omega
            · clear h3
              have K0 := cell_regrown j1
              have K1 := cell_regrown j2
              refine wp_region_quiet_below (by kernel_rfl) (by kernel_rfl) ?_
              repeat (first | go_big_quiet_step (fail) | quiet_step (fail))
              refine wpQuiet_nil ?_
              intro _ hw'
              obtain ⟨⟨dq, osq⟩, hw''⟩ := hw'
              subst hw''
              have hq9 := below_regrown wo2 dq osq
              clear K0 K1 j1 j2 hg5 hg6
              generalize Go.Sort.grow (redrawn wo2 dq) osq = w9 at *
              have b9 := Lib.hid (bt hb9'.out hq9)
              clear hq9
              go_wp2_with fail
              go_roundw
              case rel => exact ⟨k + 1, by omega, by go_num, b9.out⟩
              case measure => simp [intOf]; omega
          · obtain rfl : k = RS.length := by omega
            have BE := Lib.hid (bt BSo.out (bt B_w505 hb))
            clear hb
            go_wp2_with fail
            go_ret
            exact ⟨rfl, BE.out⟩
  · obtain ⟨er, hew⟩ : ∃ e, whyO m o [sg] = e := ⟨_, rfl⟩
    have h0 : er ≠ 0 := by rw [← hew]; exact hz
    have hne : (er != 0) = true := by simpa using h0
    replace hew := Lib.hid hew
    replace h0 := Lib.hid h0
    replace hz := Lib.hid hz
    have o_X_0 := X2.out.c (i := 0) rfl
    have o_X_1 := X2.out.c (i := 1) rfl
    have o_X_2 := X2.out.c (i := 2) rfl
    go_wp2_with fail
    clear o_X_0 o_X_1 o_X_2
    go_at_call 24
    (with_reducible refine (o_steps_no R2.out hsm.out O2.out hol.out hor.out sg hew.out h0.out).mono ?_)
    rintro e w101 ⟨rfl, hb101⟩
    have X_w101 := Lib.hid (X2.out.below hb101)
    have R_w101 := Lib.hid (R2.out.below hb101)
    have O_w101 := Lib.hid (O2.out.below hb101)
    have z0_w101 : w.heap.size < w101.heap.size := Nat.lt_of_lt_of_le z2 hb101.size
    clear X2 R2 O2 z2
    have o_X_0 := X_w101.out.c (i := 0) rfl
    have o_X_1 := X_w101.out.c (i := 1) rfl
    have o_X_2 := X_w101.out.c (i := 2) rfl
    go_wp2_with fail
    clear o_X_0 o_X_1 o_X_2
    go_at_call 29
    (with_reducible refine (o_alive17 _).mono ?_)
    rintro e w102 ⟨rfl, hb102⟩
    have X_w102 := Lib.hid (X_w101.out.below hb102)
    have R_w102 := Lib.hid (R_w101.out.below hb102)
    have O_w102 := Lib.hid (O_w101.out.below hb102)
    have z0_w102 : w.heap.size < w102.heap.size := Nat.lt_of_lt_of_le z0_w101 hb102.size
    have B_w102 := bt hb101 hb102
    clear X_w101 R_w101 O_w101 z0_w101 hb101 hb102
    go_wp2_with fail
    go_ret
    exact ⟨rfl, bt B2.out B_w102⟩
theorem more_go (v r : Value) (sg b0 k0 : Int) {w : World} (hv : InLan w v) (hr : InRows w r) (_h1 : (Lit.int .i64 sg).wf = true) (_h2 : (Lit.int .i64 b0).wf = true) (_h3 : (Lit.int .i64 k0).wf = true) : Calls Try.prog 7 #[v, r, .int .i64 sg, .int .i64 b0, .int .i64 k0] w (True1 w) := by
  obtain ⟨l, A, c, B, d, rfl, hl⟩ := hv
  obtain ⟨O, C, e, rfl, hR⟩ := hr
  exact more_law hl hR sg b0 k0
end Go.Proofs.Ytgcmklliafcffaa.LanP
