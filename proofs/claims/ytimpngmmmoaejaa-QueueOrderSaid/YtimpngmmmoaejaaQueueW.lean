/-
  QueueOrder whole.
-/
import Derived.Test.YtimpngmmmoaejaaQueueV
namespace Go.Proofs.Ytimpngmmmoaejaa.ChanP
open Go.RowKit Go.Sort Go.Conc Go.Proofs.Ytimpngmmmoaejaa.SliceP Go.Proofs.Ytimpngmmmoaejaa.BoxP Go.Proofs.Ytimpngmmmoaejaa.StrP
set_option linter.unusedVariables false
set_option maxRecDepth 100000

set_option maxHeartbeats 64000000 in
theorem order_some (n0 : Int) (a0 : Addr) (L0 : List Int) (len0 cap0 : Nat) (hlen : len0 = L0.length) {w : World} (hc0 : len0 ≤ cap0) (hc1 : cap0 ≤ 9223372036854775807) (hS0 : IntP.SlI w (some a0) L0) :
    Calls Try.prog 4 #[.int .i64 n0, .slice (some a0) len0 cap0] w (IntP.True1 w) := by
  have hS := Lib.hid hS0
  replace hlen := Lib.hid hlen
  obtain ⟨s1, s2⟩ := modw_bd n0 8 (by omega) (by omega)
  obtain ⟨nx, hnx⟩ : ∃ x, (wrap64 (n0.tmod 8 + 8)).tmod 8 = x := ⟨_, rfl⟩
  rw [hnx] at s1 s2
  obtain ⟨n, hnw⟩ : ∃ x, 1 + nx = x := ⟨_, rfl⟩
  have hn : 1 ≤ n ∧ n ≤ 8 := by omega
  obtain ⟨h1, h8⟩ := hn
  have hq := Lib.hid (show (decide (1 ≤ n) && decide (n ≤ 32)) = true by simp; omega)
  have hL0 := Lib.hid (show OrdL n 0 [] 0 from ⟨by simp; omega, fun x h => (by simp at h), by omega⟩)
  clear hS0
  go_enter Try.func4, Try.ntmps4
  go_wp2_with fail
  go_at_call 6
  (with_reducible refine (q_new_yes n _ hq.out).mono ?_)
  rintro e w1 ⟨rfl, hb1⟩
  go_upto_region 7 with fail
  obtain ⟨w2, hw2⟩ : ∃ W, W = w1.alloc (qo n (.slice none 0 0) 0) := ⟨_, rfl⟩
  have X2 := Lib.hid (show Bx w2 w1.heap.size QT #[.int .i64 n, .slice none 0 0, .int .i64 0] by rw [hw2]; exact Bx.new _ _ _ rfl)
  have B2 := Lib.hid (show Below w.heap.size w w2 by rw [hw2]; exact hb1.alloc hb1.size _)
  have hwp := Lib.hid hb1.size
  rw [← hw2]
  clear hw2 hb1 hnx hnw s1 s2 hq
  generalize w1.heap.size = p at *
  go_cut [37, 38, 39] from 33 to 39 (fun v37 v38 v39 wx => ∃ m : Nat, m ≤ 150 ∧ m ≤ L0.length ∧ v37 = .slice (some a0) m cap0 ∧ v38 = .int .i64 m ∧ v39 = .int .i64 0 ∧ wx = w2)
  case first =>
    by_cases hN : len0 ≤ 150
    · have hN1 : (len0 : Int) ≤ 150 := by omega
      have hN2 : ¬ (150 : Int) < len0 := by omega
      go_wp2_with fail
      go_meet
      exact ⟨len0, hN, by have := hlen.out; omega, rfl, rfl, rfl, rfl⟩
    · have hN1 : ¬ (len0 : Int) ≤ 150 := by omega
      have hN2 : (150 : Int) < len0 := by omega
      go_wp2_with fail
      go_meet
      exact ⟨150, by omega, by have := hlen.out; omega, rfl, rfl, rfl, rfl⟩
  case rest =>
  obtain ⟨m, hm3, hm4, rfl, rfl, rfl, rfl⟩ := hcut
  replace hm4 := Lib.hid hm4
  go_wp2_with fail
  go_loopw [7, 8, 39] (fun v7 v8 i wr => ∃ k : Nat, k ≤ m ∧ i = .int .i64 k ∧ Ord n w p k v7 v8 wr) (fun _ _ i _ => m - (intOf i).toNat)
  case atStart => exact ⟨0, by omega, rfl, [], 0, none, 0, rfl, hL0.out, X2.out, RowS.empty _, .nil _ _ _ _ _, B2.out⟩
  case round =>
    clear X2 B2 hL0
    obtain ⟨k, hk, rfl, has, lost, A, c, rfl, hL, X, T, O, hb⟩ := hrel
    obtain ⟨Ah, ch, hv⟩ := OffS.form' O
    subst hv
    replace hL := Lib.hid hL
    replace X := Lib.hid X
    replace T := Lib.hid T
    replace O := Lib.hid O
    replace hb := Lib.hid hb
    have hwr := Lib.hid hb.out.size
    by_cases hkm : k < m
    · have hk150 : k ≤ 150 := by omega
      have hk151 : k + 1 ≤ 150 := by omega
      have hlb : lost ≤ 1200 := by have := hL.out.lost; omega
      have hhb : has.length ≤ 8 := (hL.out.small h8).1
      obtain ⟨x0, hx0⟩ : ∃ x0, L0[k]? = some x0 := ⟨_, List.getElem?_eq_getElem (by have := hm4.out; omega)⟩
      obtain ⟨b0, o0, e9, hbw, q0⟩ := IntP.SlI.at_ hS.out hx0
      obtain rfl : a0 = ⟨b0, o0, none⟩ := by simpa using e9
      replace q0 := (hb.out.cell (p := ⟨b0, _, none⟩) hbw).trans q0
      have hbw2 : b0 < wr.heap.size := Nat.lt_of_lt_of_le hbw hb.out.size
      obtain ⟨y1, y2⟩ := modw_bd x0 8 (by omega) (by omega)
      obtain ⟨op, hop⟩ : ∃ x, (wrap64 (x0.tmod 8 + 8)).tmod 8 = x := ⟨_, rfl⟩
      rw [hop] at y1 y2
      have hpl := X.out.lt
      clear hx0 hbw
      go_upto_block 2 with fail
      go_cut [4, 7, 8, 11, 12, 13, 14, 15, 16, 17, 18, 19, 20] from 48 to 125 (fun _ v7 v8 _ _ _ _ _ _ _ _ _ _ wx => Ord n w p (k + 1) v7 v8 wx)
      case first =>
        by_cases e0 : op = 0
        · have h0' : (op == 0) = true := by simpa using e0
          replace e0 := Lib.hid e0
          obtain ⟨l2, hl2⟩ : ∃ l2 : Nat, l2 = lost + has.length := ⟨_, rfl⟩
          have hl3 : (lost : Int) + (has.length : Int) = (l2 : Int) := by omega
          have hl4 : l2 ≤ 2000 := by omega
          have hL9 := Lib.hid (show OrdL n (k + 1) [] l2 by rw [hl2]; exact hL.out.clear h8 h1)
          have cC := Lib.hid (by have := ord_clear hL.out h1 h8 hk150 T.out; rwa [hl3] at this : Calls Try.prog 9 #[qv n (.slice A has.length c) lost] wr fun e w' => e = .returned (.tuple #[qv n (.slice none 0 0) l2, .int .i64 has.length, .int .i64 0]) ∧ Below wr.heap.size wr w')
          replace hl2 := Lib.hid hl2
          obtain ⟨x0, x1, x2⟩ := Bx.c3 X.out
          have xl := X.out.lt
          have xf0 := X.out.f 0
          have xf1 := X.out.f 1
          have xf2 := X.out.f 2
          go_wp2_with fail
          clear x0 x1 x2 xl xf0 xf1 xf2
          go_at_call 9
          (with_reducible refine (cC.out).mono ?_)
          rintro e w4 ⟨rfl, hb4⟩
          have X4 := Lib.hid (X.out.below hb4)
          have B4 := Lib.hid (bt hb.out hb4)
          clear hb4
          obtain ⟨x0, x1, x2⟩ := Bx.c3 X4.out
          have xl := X4.out.lt
          have xf0 := X4.out.f 0
          have xf1 := X4.out.f 1
          have xf2 := X4.out.f 2
          go_wp2_with fail
          clear x0 x1 x2 xl xf0 xf1 xf2
          obtain ⟨W, hW⟩ : ∃ W, W = (((w4.setCell ⟨p, 0, none⟩ (.int .i64 n)).setCell ⟨p, 1, none⟩ (.slice none 0 0)).setCell ⟨p, 2, none⟩ (.int .i64 l2)).alloc (qo n (.slice none 0 0) l2) := ⟨_, rfl⟩
          have X9 := Lib.hid (show Bx W p QT #[.int .i64 n, .slice none 0 0, .int .i64 l2] by rw [hW]; exact X4.out.three.alloc _)
          have B9 := Lib.hid (show Below w.heap.size w W by rw [hW]; exact (below3 B4.out hwp.out _ _ _).alloc (below3 B4.out hwp.out _ _ _).size _)
          have T9 := Lib.hid (RowS.empty W)
          have O9 := Lib.hid (show OffS W (p + 1) W.heap.size (.slice none 0 0) [] from .nil _ _ _ _ _)
          rw [← hW]
          clear hW X4 B4
          go_meet
          exact ⟨[], l2, _, _, rfl, hL9.out, X9.out, T9.out, OwnF.top O9.out, B9.out⟩
        have h0' : (op == 0) = false := by simpa using e0
        by_cases e1 : op = 1
        · have h1' : (op == 1) = true := by simpa using e1
          replace e1 := Lib.hid e1
          by_cases hE : has = []
          · skip
            subst hE
            have T' := Lib.hid (show RowS wr A 0 c [] by simpa using T.out)
            have cP := Lib.hid (ord_pop_none hL.out h1 h8 hk150 T'.out)
            obtain ⟨x0, x1, x2⟩ := Bx.c3 X.out
            have xl := X.out.lt
            have xf0 := X.out.f 0
            have xf1 := X.out.f 1
            have xf2 := X.out.f 2
            go_wp2_with fail
            clear x0 x1 x2 xl xf0 xf1 xf2
            go_at_call 8
            (with_reducible refine (cP.out).mono ?_)
            rintro e w4 ⟨rfl, hb4⟩
            have X4 := Lib.hid (X.out.below hb4)
            have T4 := Lib.hid (T.out.below hb4)
            have O4 := Lib.hid (OwnF.below O.out hb4)
            have B4 := Lib.hid (bt hb.out hb4)
            clear hb4
            go_wp2_with fail
            go_roundw
            case rel =>
              have b5 := (Below.refl w4.heap.size w4).alloc (Nat.le_refl _) (qo 0 (.slice none 0 0) 0)
              exact ⟨k + 1, by omega, by go_num, [], lost, A, c, rfl, hL.out.next, X4.out.below b5, T4.out.below b5, OwnF.top (OwnF.below O4.out b5), bt B4.out b5⟩
            case measure => simp [intOf]; omega
          · skip
            obtain ⟨x, r, hxr⟩ : ∃ x r, has = x :: r := by
              cases has with
              | nil => exact absurd rfl hE
              | cons x r => exact ⟨x, r, rfl⟩
            have hL9 := Lib.hid (hL.out.pop hxr)
            have cP := Lib.hid (ord_pop hL.out hxr h1 h8 hk150 T.out)
            have hlen : has.length = r.length + 1 := by rw [hxr]; rfl
            have hn0 : ((has.length : Int) == 0) = false := by simp; omega
            have hn1 : (1 : Int) ≤ (has.length : Int) := by omega
            have hn2 : (0 : Int) < (has.length : Int) := by omega
            have hcap := (offRow O.out).cap
            have hcap' : (has.length : Int) ≤ (ch : Int) := by omega
            have hXS := neqS x
            have O' : OffS wr (p + 1) wr.heap.size (.slice Ah has.length ch) (x :: r) := by rw [← hxr]; exact O.out
            obtain ⟨g, og, rfl, O9⟩ := OffS.rest' O'
            obtain ⟨g', og', e, hgw, z0⟩ := SlS.at_ (offRow O.out).sl (k := 0) (x := x) (by rw [hxr]; rfl)
            obtain ⟨rfl, rfl⟩ : g = g' ∧ og = og' := by simpa using e
            rw [Nat.add_zero] at z0
            replace O9 := Lib.hid O9
            replace hxr := Lib.hid hxr
            replace hlen := Lib.hid hlen
            clear e O' hE
            obtain ⟨x0, x1, x2⟩ := Bx.c3 X.out
            have xl := X.out.lt
            have xf0 := X.out.f 0
            have xf1 := X.out.f 1
            have xf2 := X.out.f 2
            go_wp2_with fail
            clear x0 x1 x2 xl xf0 xf1 xf2
            go_at_call 8
            (with_reducible refine (cP.out).mono ?_)
            rintro e w4 ⟨AO, co, rfl, TO, hb4⟩
            have X4 := Lib.hid (X.out.below hb4)
            have O4 := Lib.hid (OwnF.below O9.out hb4)
            have B4 := Lib.hid (bt hb.out hb4)
            have z4 : w4.cell? ⟨g, og, none⟩ = some (.string x) := (hb4.cell (p := ⟨g, og, none⟩) hgw).trans z0
            have hgw4 : g < w4.heap.size := Nat.lt_of_lt_of_le hgw hb4.size
            replace TO := Lib.hid TO
            have hpl4 := Lib.hid hpl
            clear hb4 X z0 hgw q0 hbw2 cP O O9 T
            go_upto_region 33 with fail
            obtain ⟨w5, hw5⟩ : ∃ W, W = w4.alloc (qo n (.slice AO r.length co) lost) := ⟨_, rfl⟩
            rw [← hw5]
            have b5 : Below w4.heap.size w4 w5 := by rw [hw5]; exact (Below.refl _ _).alloc (Nat.le_refl _) _
            have Z5 := Lib.hid (show Bx w5 w4.heap.size QT #[.int .i64 n, .slice AO r.length co, .int .i64 lost] by rw [hw5]; exact Bx.new _ _ _ rfl)
            have X5 := Lib.hid (X4.out.below b5)
            have O5 := Lib.hid (OwnF.below O4.out b5)
            have B5 := Lib.hid (bt B4.out b5)
            have T5 := Lib.hid (Own.below TO.out b5)
            clear hw5 b5 X4 O4 B4 TO z4

            obtain ⟨u0, u1, u2⟩ := Bx.c3 Z5.out
            have hul := Z5.out.lt
            obtain ⟨x0, x1, x2⟩ := Bx.c3 X5.out
            have xl := X5.out.lt
            have xf0 := X5.out.f 0
            have xf1 := X5.out.f 1
            have xf2 := X5.out.f 2
            by_cases hch : ch = 1
            · have O6 := O5.out
              rw [if_pos hch] at O6
              rw [show ch - 1 = 0 by omega] at O6
              replace O6 := Lib.hid O6
              go_region_with (fail)
              all_goals (go_wp2_with fail; go_meet)
              all_goals
                refine ⟨r, lost, AO, co, rfl, hL9.out, Bx.below X5.out.three (Below.refl _ _).drew, RowS.below (own_row (OwnS.set (OwnS.set (OwnS.set T5.out hpl4.out 0 _) hpl4.out 1 _) hpl4.out 2 _)) (Below.refl _ _).drew, ?_, (below3 B5.out hwp.out _ _ _).drew⟩
                exact OwnF.top (OwnF.below (off3 O6.out _ _ _) (Below.refl _ _).drew)
            · have O6 := O5.out
              rw [if_neg hch] at O6
              replace O6 := Lib.hid O6
              go_region_with (fail)
              all_goals (go_wp2_with fail; go_meet)
              all_goals
                refine ⟨r, lost, AO, co, rfl, hL9.out, Bx.below X5.out.three (Below.refl _ _).drew, RowS.below (own_row (OwnS.set (OwnS.set (OwnS.set T5.out hpl4.out 0 _) hpl4.out 1 _) hpl4.out 2 _)) (Below.refl _ _).drew, ?_, (below3 B5.out hwp.out _ _ _).drew⟩
                exact OwnF.top (OwnF.below (off3 O6.out _ _ _) (Below.refl _ _).drew)
        have h1' : (op == 1) = false := by simpa using e1
        by_cases e2 : op = 2
        · have h2' : (op == 2) = true := by simpa using e2
          replace e2 := Lib.hid e2
          by_cases hE : has = []
          · skip
            subst hE
            have T' := Lib.hid (show RowS wr A 0 c [] by simpa using T.out)
            have cP := Lib.hid (ord_pop_none hL.out h1 h8 hk150 T'.out)
            obtain ⟨x0, x1, x2⟩ := Bx.c3 X.out
            have xl := X.out.lt
            have xf0 := X.out.f 0
            have xf1 := X.out.f 1
            have xf2 := X.out.f 2
            go_wp2_with fail
            clear x0 x1 x2 xl xf0 xf1 xf2
            go_at_call 8
            (with_reducible refine (cP.out).mono ?_)
            rintro e w4 ⟨rfl, hb4⟩
            have X4 := Lib.hid (X.out.below hb4)
            have T4 := Lib.hid (T.out.below hb4)
            have O4 := Lib.hid (OwnF.below O.out hb4)
            have B4 := Lib.hid (bt hb.out hb4)
            clear hb4
            go_wp2_with fail
            go_roundw
            case rel =>
              have b5 := (Below.refl w4.heap.size w4).alloc (Nat.le_refl _) (qo 0 (.slice none 0 0) 0)
              exact ⟨k + 1, by omega, by go_num, [], lost, A, c, rfl, hL.out.next, X4.out.below b5, T4.out.below b5, OwnF.top (OwnF.below O4.out b5), bt B4.out b5⟩
            case measure => simp [intOf]; omega
          · skip
            obtain ⟨x, r, hxr⟩ : ∃ x r, has = x :: r := by
              cases has with
              | nil => exact absurd rfl hE
              | cons x r => exact ⟨x, r, rfl⟩
            have hL9 := Lib.hid (hL.out.pop hxr)
            have cP := Lib.hid (ord_pop hL.out hxr h1 h8 hk150 T.out)
            have hlen : has.length = r.length + 1 := by rw [hxr]; rfl
            have hn0 : ((has.length : Int) == 0) = false := by simp; omega
            have hn1 : (1 : Int) ≤ (has.length : Int) := by omega
            have hn2 : (0 : Int) < (has.length : Int) := by omega
            have hcap := (offRow O.out).cap
            have hcap' : (has.length : Int) ≤ (ch : Int) := by omega
            have hXS := neqS x
            have O' : OffS wr (p + 1) wr.heap.size (.slice Ah has.length ch) (x :: r) := by rw [← hxr]; exact O.out
            obtain ⟨g, og, rfl, O9⟩ := OffS.rest' O'
            obtain ⟨g', og', e, hgw, z0⟩ := SlS.at_ (offRow O.out).sl (k := 0) (x := x) (by rw [hxr]; rfl)
            obtain ⟨rfl, rfl⟩ : g = g' ∧ og = og' := by simpa using e
            rw [Nat.add_zero] at z0
            replace O9 := Lib.hid O9
            replace hxr := Lib.hid hxr
            replace hlen := Lib.hid hlen
            clear e O' hE
            obtain ⟨x0, x1, x2⟩ := Bx.c3 X.out
            have xl := X.out.lt
            have xf0 := X.out.f 0
            have xf1 := X.out.f 1
            have xf2 := X.out.f 2
            go_wp2_with fail
            clear x0 x1 x2 xl xf0 xf1 xf2
            go_at_call 8
            (with_reducible refine (cP.out).mono ?_)
            rintro e w4 ⟨AO, co, rfl, TO, hb4⟩
            have X4 := Lib.hid (X.out.below hb4)
            have O4 := Lib.hid (OwnF.below O9.out hb4)
            have B4 := Lib.hid (bt hb.out hb4)
            have z4 : w4.cell? ⟨g, og, none⟩ = some (.string x) := (hb4.cell (p := ⟨g, og, none⟩) hgw).trans z0
            have hgw4 : g < w4.heap.size := Nat.lt_of_lt_of_le hgw hb4.size
            replace TO := Lib.hid TO
            have hpl4 := Lib.hid hpl
            clear hb4 X z0 hgw q0 hbw2 cP O O9 T
            go_upto_region 33 with fail
            obtain ⟨w5, hw5⟩ : ∃ W, W = w4.alloc (qo n (.slice AO r.length co) lost) := ⟨_, rfl⟩
            rw [← hw5]
            have b5 : Below w4.heap.size w4 w5 := by rw [hw5]; exact (Below.refl _ _).alloc (Nat.le_refl _) _
            have Z5 := Lib.hid (show Bx w5 w4.heap.size QT #[.int .i64 n, .slice AO r.length co, .int .i64 lost] by rw [hw5]; exact Bx.new _ _ _ rfl)
            have X5 := Lib.hid (X4.out.below b5)
            have O5 := Lib.hid (OwnF.below O4.out b5)
            have B5 := Lib.hid (bt B4.out b5)
            have T5 := Lib.hid (Own.below TO.out b5)
            clear hw5 b5 X4 O4 B4 TO z4

            obtain ⟨u0, u1, u2⟩ := Bx.c3 Z5.out
            have hul := Z5.out.lt
            obtain ⟨x0, x1, x2⟩ := Bx.c3 X5.out
            have xl := X5.out.lt
            have xf0 := X5.out.f 0
            have xf1 := X5.out.f 1
            have xf2 := X5.out.f 2
            by_cases hch : ch = 1
            · have O6 := O5.out
              rw [if_pos hch] at O6
              rw [show ch - 1 = 0 by omega] at O6
              replace O6 := Lib.hid O6
              go_region_with (fail)
              all_goals (go_wp2_with fail; go_meet)
              all_goals
                refine ⟨r, lost, AO, co, rfl, hL9.out, Bx.below X5.out.three (Below.refl _ _).drew, RowS.below (own_row (OwnS.set (OwnS.set (OwnS.set T5.out hpl4.out 0 _) hpl4.out 1 _) hpl4.out 2 _)) (Below.refl _ _).drew, ?_, (below3 B5.out hwp.out _ _ _).drew⟩
                exact OwnF.top (OwnF.below (off3 O6.out _ _ _) (Below.refl _ _).drew)
            · have O6 := O5.out
              rw [if_neg hch] at O6
              replace O6 := Lib.hid O6
              go_region_with (fail)
              all_goals (go_wp2_with fail; go_meet)
              all_goals
                refine ⟨r, lost, AO, co, rfl, hL9.out, Bx.below X5.out.three (Below.refl _ _).drew, RowS.below (own_row (OwnS.set (OwnS.set (OwnS.set T5.out hpl4.out 0 _) hpl4.out 1 _) hpl4.out 2 _)) (Below.refl _ _).drew, ?_, (below3 B5.out hwp.out _ _ _).drew⟩
                exact OwnF.top (OwnF.below (off3 O6.out _ _ _) (Below.refl _ _).drew)
        have h2' : (op == 2) = false := by simpa using e2
        by_cases e3 : op = 3
        · have h3' : (op == 3) = true := by simpa using e3
          replace e3 := Lib.hid e3
          by_cases hE : has = []
          · skip
            subst hE
            have T' := Lib.hid (show RowS wr A 0 c [] by simpa using T.out)
            have cP := Lib.hid (ord_pop_none hL.out h1 h8 hk150 T'.out)
            obtain ⟨x0, x1, x2⟩ := Bx.c3 X.out
            have xl := X.out.lt
            have xf0 := X.out.f 0
            have xf1 := X.out.f 1
            have xf2 := X.out.f 2
            go_wp2_with fail
            clear x0 x1 x2 xl xf0 xf1 xf2
            go_at_call 8
            (with_reducible refine (cP.out).mono ?_)
            rintro e w4 ⟨rfl, hb4⟩
            have X4 := Lib.hid (X.out.below hb4)
            have T4 := Lib.hid (T.out.below hb4)
            have O4 := Lib.hid (OwnF.below O.out hb4)
            have B4 := Lib.hid (bt hb.out hb4)
            clear hb4
            go_wp2_with fail
            go_roundw
            case rel =>
              have b5 := (Below.refl w4.heap.size w4).alloc (Nat.le_refl _) (qo 0 (.slice none 0 0) 0)
              exact ⟨k + 1, by omega, by go_num, [], lost, A, c, rfl, hL.out.next, X4.out.below b5, T4.out.below b5, OwnF.top (OwnF.below O4.out b5), bt B4.out b5⟩
            case measure => simp [intOf]; omega
          · skip
            obtain ⟨x, r, hxr⟩ : ∃ x r, has = x :: r := by
              cases has with
              | nil => exact absurd rfl hE
              | cons x r => exact ⟨x, r, rfl⟩
            have hL9 := Lib.hid (hL.out.pop hxr)
            have cP := Lib.hid (ord_pop hL.out hxr h1 h8 hk150 T.out)
            have hlen : has.length = r.length + 1 := by rw [hxr]; rfl
            have hn0 : ((has.length : Int) == 0) = false := by simp; omega
            have hn1 : (1 : Int) ≤ (has.length : Int) := by omega
            have hn2 : (0 : Int) < (has.length : Int) := by omega
            have hcap := (offRow O.out).cap
            have hcap' : (has.length : Int) ≤ (ch : Int) := by omega
            have hXS := neqS x
            have O' : OffS wr (p + 1) wr.heap.size (.slice Ah has.length ch) (x :: r) := by rw [← hxr]; exact O.out
            obtain ⟨g, og, rfl, O9⟩ := OffS.rest' O'
            obtain ⟨g', og', e, hgw, z0⟩ := SlS.at_ (offRow O.out).sl (k := 0) (x := x) (by rw [hxr]; rfl)
            obtain ⟨rfl, rfl⟩ : g = g' ∧ og = og' := by simpa using e
            rw [Nat.add_zero] at z0
            replace O9 := Lib.hid O9
            replace hxr := Lib.hid hxr
            replace hlen := Lib.hid hlen
            clear e O' hE
            obtain ⟨x0, x1, x2⟩ := Bx.c3 X.out
            have xl := X.out.lt
            have xf0 := X.out.f 0
            have xf1 := X.out.f 1
            have xf2 := X.out.f 2
            go_wp2_with fail
            clear x0 x1 x2 xl xf0 xf1 xf2
            go_at_call 8
            (with_reducible refine (cP.out).mono ?_)
            rintro e w4 ⟨AO, co, rfl, TO, hb4⟩
            have X4 := Lib.hid (X.out.below hb4)
            have O4 := Lib.hid (OwnF.below O9.out hb4)
            have B4 := Lib.hid (bt hb.out hb4)
            have z4 : w4.cell? ⟨g, og, none⟩ = some (.string x) := (hb4.cell (p := ⟨g, og, none⟩) hgw).trans z0
            have hgw4 : g < w4.heap.size := Nat.lt_of_lt_of_le hgw hb4.size
            replace TO := Lib.hid TO
            have hpl4 := Lib.hid hpl
            clear hb4 X z0 hgw q0 hbw2 cP O O9 T
            go_upto_region 33 with fail
            obtain ⟨w5, hw5⟩ : ∃ W, W = w4.alloc (qo n (.slice AO r.length co) lost) := ⟨_, rfl⟩
            rw [← hw5]
            have b5 : Below w4.heap.size w4 w5 := by rw [hw5]; exact (Below.refl _ _).alloc (Nat.le_refl _) _
            have Z5 := Lib.hid (show Bx w5 w4.heap.size QT #[.int .i64 n, .slice AO r.length co, .int .i64 lost] by rw [hw5]; exact Bx.new _ _ _ rfl)
            have X5 := Lib.hid (X4.out.below b5)
            have O5 := Lib.hid (OwnF.below O4.out b5)
            have B5 := Lib.hid (bt B4.out b5)
            have T5 := Lib.hid (Own.below TO.out b5)
            clear hw5 b5 X4 O4 B4 TO z4

            obtain ⟨u0, u1, u2⟩ := Bx.c3 Z5.out
            have hul := Z5.out.lt
            obtain ⟨x0, x1, x2⟩ := Bx.c3 X5.out
            have xl := X5.out.lt
            have xf0 := X5.out.f 0
            have xf1 := X5.out.f 1
            have xf2 := X5.out.f 2
            by_cases hch : ch = 1
            · have O6 := O5.out
              rw [if_pos hch] at O6
              rw [show ch - 1 = 0 by omega] at O6
              replace O6 := Lib.hid O6
              go_region_with (fail)
              all_goals (go_wp2_with fail; go_meet)
              all_goals
                refine ⟨r, lost, AO, co, rfl, hL9.out, Bx.below X5.out.three (Below.refl _ _).drew, RowS.below (own_row (OwnS.set (OwnS.set (OwnS.set T5.out hpl4.out 0 _) hpl4.out 1 _) hpl4.out 2 _)) (Below.refl _ _).drew, ?_, (below3 B5.out hwp.out _ _ _).drew⟩
                exact OwnF.top (OwnF.below (off3 O6.out _ _ _) (Below.refl _ _).drew)
            · have O6 := O5.out
              rw [if_neg hch] at O6
              replace O6 := Lib.hid O6
              go_region_with (fail)
              all_goals (go_wp2_with fail; go_meet)
              all_goals
                refine ⟨r, lost, AO, co, rfl, hL9.out, Bx.below X5.out.three (Below.refl _ _).drew, RowS.below (own_row (OwnS.set (OwnS.set (OwnS.set T5.out hpl4.out 0 _) hpl4.out 1 _) hpl4.out 2 _)) (Below.refl _ _).drew, ?_, (below3 B5.out hwp.out _ _ _).drew⟩
                exact OwnF.top (OwnF.below (off3 O6.out _ _ _) (Below.refl _ _).drew)
        have h3' : (op == 3) = false := by simpa using e3
        have hs2 := fun w m n => str_two w m n
        go_upto_region 12 with fail
        have hsz := two_size (k : Int) (x0 % 256)
        generalize strOfNums [(k : Int), x0 % 256] = sx at *
        obtain ⟨w3, hw3⟩ : ∃ W, W = wr.alloc (.cells #[.int .u8 (k : Int), .int .u8 (x0 % 256)] 5) := ⟨_, rfl⟩
        rw [← hw3]
        have b3 : Below wr.heap.size wr w3 := by rw [hw3]; exact (Below.refl _ _).alloc (Nat.le_refl _) _
        have X3 := Lib.hid (X.out.below b3)
        have T3 := Lib.hid (T.out.below b3)
        have O3 := Lib.hid (OwnF.below O.out b3)
        have B3 := Lib.hid (bt hb.out b3)
        have hs3 := Lib.hid b3.size
        replace hsz := Lib.hid hsz
        clear hs2 hw3 b3 X T O q0 hbw2
        by_cases hf : n ≤ (has.length : Int)
        · skip
          have hlt : ¬ (has.length : Int) < n := by omega
          obtain ⟨l2, hl2⟩ : ∃ l2 : Nat, l2 = lost + 1 := ⟨_, rfl⟩
          have hl3 : (lost : Int) + 1 = (l2 : Int) := by omega
          have hl4 : l2 ≤ 2000 := by omega
          have hL9 := Lib.hid (show OrdL n (k + 1) has l2 by rw [hl2]; exact hL.out.full)
          have cP := Lib.hid (by have := ord_full hL.out h1 h8 hk150 T3.out hsz.out hf; rwa [hl3] at this : Calls Try.prog 7 #[qv n (.slice A has.length c) lost, .string sx] w3 fun e w' => ∃ A' c', e = .returned (.tuple #[qv n (.slice A' has.length c') l2, .bool false, .int .i64 0]) ∧ OwnS w' w3.heap.size (.slice A' has.length c') has ∧ Below w3.heap.size w3 w')
          replace hl2 := Lib.hid hl2
          obtain ⟨x0, x1, x2⟩ := Bx.c3 X3.out
          have xl := X3.out.lt
          have xf0 := X3.out.f 0
          have xf1 := X3.out.f 1
          have xf2 := X3.out.f 2
          go_wp2_with fail
          clear x0 x1 x2 xl xf0 xf1 xf2
          go_at_call 7
          (with_reducible refine (cP.out).mono ?_)
          rintro e w4 ⟨AP, cp, rfl, TP, hb4⟩
          have hp3 := Lib.hid X3.out.lt
          have X4 := Lib.hid (X3.out.below hb4)
          have O4 := Lib.hid (OwnF.below O3.out hb4)
          have B4 := Lib.hid (bt B3.out hb4)
          replace TP := Lib.hid TP
          clear hb4 X3 O3 T3 B3
          obtain ⟨x0, x1, x2⟩ := Bx.c3 X4.out
          have xl := X4.out.lt
          have xf0 := X4.out.f 0
          have xf1 := X4.out.f 1
          have xf2 := X4.out.f 2
          go_wp2_with fail
          clear x0 x1 x2 xl xf0 xf1 xf2
          have b5 := (Below.refl (((w4.setCell ⟨p, 0, none⟩ (.int .i64 n)).setCell ⟨p, 1, none⟩ (.slice AP has.length cp)).setCell ⟨p, 2, none⟩ (.int .i64 l2)).heap.size (((w4.setCell ⟨p, 0, none⟩ (.int .i64 n)).setCell ⟨p, 1, none⟩ (.slice AP has.length cp)).setCell ⟨p, 2, none⟩ (.int .i64 l2))).alloc (Nat.le_refl _) (qo n (.slice AP has.length cp) l2)
          go_meet
          exact ⟨has, l2, AP, cp, rfl, hL9.out, Bx.below X4.out.three b5, RowS.below (own_row (OwnS.set (OwnS.set (OwnS.set TP.out hp3.out 0 _) hp3.out 1 _) hp3.out 2 _)) b5, OwnF.top (OwnF.below (off3 O4.out _ _ _) b5), (below3 B4.out hwp.out _ _ _).trans (b5.mono (below3 B4.out hwp.out _ _ _).size)⟩
        · skip
          have hlt : (has.length : Int) < n := by omega
          have hL9 := Lib.hid (hL.out.room hf hsz.out)
          obtain ⟨h2, hh2⟩ : ∃ h, has ++ [sx] = h := ⟨_, rfl⟩
          have cP := Lib.hid (ord_room hL.out hh2 h1 h8 hk150 T3.out hsz.out hf)
          replace hh2 := Lib.hid hh2
          obtain ⟨x0, x1, x2⟩ := Bx.c3 X3.out
          have xl := X3.out.lt
          have xf0 := X3.out.f 0
          have xf1 := X3.out.f 1
          have xf2 := X3.out.f 2
          go_wp2_with fail
          clear x0 x1 x2 xl xf0 xf1 xf2
          go_at_call 7
          (with_reducible refine (cP.out).mono ?_)
          rintro e w4 ⟨AP, cp, rfl, TP, hb4⟩
          have hp3 := Lib.hid X3.out.lt
          have X4 := Lib.hid (X3.out.below hb4)
          have O4 := Lib.hid (OwnF.below O3.out hb4)
          have B4 := Lib.hid (bt B3.out hb4)
          have hs4 := Lib.hid hb4.size
          replace TP := Lib.hid TP
          clear hb4 X3 O3 T3 B3
          obtain ⟨x0, x1, x2⟩ := Bx.c3 X4.out
          have xl := X4.out.lt
          have xf0 := X4.out.f 0
          have xf1 := X4.out.f 1
          have xf2 := X4.out.f 2
          go_upto_region 17 with fail
          clear x0 x1 x2 xl xf0 xf1 xf2
          obtain ⟨W, hW⟩ : ∃ W, W = (((w4.setCell ⟨p, 0, none⟩ (.int .i64 n)).setCell ⟨p, 1, none⟩ (.slice AP h2.length cp)).setCell ⟨p, 2, none⟩ (.int .i64 lost)).alloc (qo n (.slice AP h2.length cp) lost) := ⟨_, rfl⟩
          obtain ⟨W0, hW0⟩ : ∃ W, W = ((w4.setCell ⟨p, 0, none⟩ (.int .i64 n)).setCell ⟨p, 1, none⟩ (.slice AP h2.length cp)).setCell ⟨p, 2, none⟩ (.int .i64 lost) := ⟨_, rfl⟩
          rw [← hW]
          rw [← hW0] at hW
          have b5 : Below W0.heap.size W0 W := by rw [hW]; exact (Below.refl _ _).alloc (Nat.le_refl _) _
          have X5 := Lib.hid (show Bx W p QT #[.int .i64 n, .slice AP h2.length cp, .int .i64 lost] from Bx.below (by rw [hW0]; exact X4.out.three) b5)
          have T5 := Lib.hid (show OwnS W w3.heap.size (.slice AP h2.length cp) h2 from Own.below (w := W0) (by rw [hW0]; exact OwnS.set (OwnS.set (OwnS.set TP.out hp3.out 0 _) hp3.out 1 _) hp3.out 2 _) b5)
          have O5 := Lib.hid (show OffS W (p + 1) wr.heap.size (.slice Ah has.length ch) has from OwnF.below (w := W0) (by rw [hW0]; exact off3 O4.out _ _ _) b5)
          have B5 := Lib.hid (show Below w.heap.size w W from by have h0 : Below w.heap.size w W0 := by rw [hW0]; exact below3 B4.out hwp.out _ _ _
                                                                 exact h0.trans (b5.mono h0.size))
          clear hW hW0 b5 X4 TP O4 B4
          have ownK := Lib.hid (OwnF.below O5.out ((Below.refl W.heap.size W).alloc (Nat.le_refl _) (.cells #[.string sx] 9)))
          have hn1 : Hid ((cS has).length + (cS [sx]).length ≤ 1000000) := Lib.hid (by rw [cS_length, cS_length]; simp; omega)
          have hB2 : Hid (p + 1 ≤ (W.alloc (.cells #[.string sx] 9)).heap.size) := Lib.hid (by have := X5.out.lt; simp; omega)
          have hsl := Lib.hid (SlS.one W sx W.heap.size rfl)
          go_wp2_with (at_builtin; (refine wpList_append_off rfl (.tmp 73) (.tmp 75) 22 rfl elS (by rfl) ownK.out (by rfl) (by rfl) hsl.out (by simp [cS]) (whole [sx]) hn1.out hB2.out ?_); intro v' w7 row own1 grow1 hrow1)
          have b6 := (Below.refl W.heap.size W).alloc (Nat.le_refl _) (.cells #[.string sx] 9)
          have hrow2 : ∀ j, row = some j → p + 1 ≤ j ∧ j < wr.heap.size := hrow1
          have X9 : Bx w7 p QT #[.int .i64 n, .slice AP h2.length cp, .int .i64 lost] := (Bx.below X5.out b6).grown grow1 (fun e => by have := (hrow2 p e.symm).1; omega)
          have T9 : OwnS w7 w3.heap.size (.slice AP h2.length cp) h2 := Own.kept (Own.below T5.out b6) grow1 (by
            cases hv : Value.ownBlock (.slice AP h2.length cp) with
            | none => exact .inl rfl
            | some j => exact .inr (fun e => by have := (T5.out.lt j hv).1; have := (hrow2 j e.symm).2; have := hs3.out; omega))
          have O9 : OffS w7 (p + 1) w7.heap.size v' h2 := by
            have := own1
            rw [← cS_append, hh2.out] at this
            exact this
          have hL9' : OrdL n (k + 1) h2 lost := by rw [← hh2.out]; exact hL9.out
          have B9 : Below w.heap.size w w7 := (bt B5.out b6).grown grow1 (Nat.le_trans (bt B5.out b6).size (Nat.le_refl _)) (fun j hj => by have := (hrow2 j hj).1; have := hwp.out; omega)
          go_meet
          exact ⟨h2, lost, AP, cp, rfl, hL9', X9, own_row T9, O9, B9⟩
      case rest =>
      clear hL X T O hb hwr q0 hbw2 hpl hlb hhb
      obtain ⟨has', lost', A', c', rfl, hL9, X9, T9, O9, B9⟩ := hcut
      obtain ⟨Ah', ch', hv⟩ := OffS.form' O9
      subst hv
      replace hL9 := Lib.hid hL9
      replace X9 := Lib.hid X9
      replace T9 := Lib.hid T9
      replace O9 := Lib.hid O9
      replace B9 := Lib.hid B9
      have R9 := Lib.hid (offRow O9.out)
      have hh9 := (hL9.out.small h8).1
      have hk9 := Lib.hid hL9.out
      obtain ⟨x0, x1, x2⟩ := Bx.c3 X9.out
      have xl := X9.out.lt
      have xf0 := X9.out.f 0
      have xf1 := X9.out.f 1
      have xf2 := X9.out.f 2
      go_wp2_with fail
      clear x0 x1 x2 xl xf0 xf1 xf2
      go_at_call 16
      (with_reducible refine (r_rows T9.out R9.out (by omega)).mono ?_)
      rintro e wa ⟨rfl, hba⟩
      clear R9
      have Xa := Lib.hid (X9.out.below hba)
      have Oa := Lib.hid (OwnF.below O9.out hba)
      have Ba := Lib.hid (bt B9.out hba)
      have Ta := Lib.hid (RowS.below T9.out hba)
      clear hba X9 O9 B9 T9
      obtain ⟨x0, x1, x2⟩ := Bx.c3 Xa.out
      have xl := Xa.out.lt
      go_wp2_with fail
      clear x0 x1 x2 xl
      go_at_call 10
      (with_reducible refine (ord_right hk9.out h1 h8 hk151 Ta.out).mono ?_)
      rintro e wb ⟨rfl, hbb⟩
      have Xb := Lib.hid (Xa.out.below hbb)
      have Ob := Lib.hid (OwnF.below Oa.out hbb)
      have Bb := Lib.hid (bt Ba.out hbb)
      have Tb := Lib.hid (RowS.below Ta.out hbb)
      clear hbb Xa Oa Ba Ta
      go_wp2_with fail
      go_roundw
      case rel => exact ⟨k + 1, by omega, by go_num, has', lost', _, _, rfl, hk9.out, Xb.out, Tb.out, OwnF.top Ob.out, Bb.out⟩
      case measure => simp [intOf]; omega
    · obtain rfl : k = m := by omega
      go_wp2_with fail
      go_at_call 12
      (with_reducible refine (alive_any _).mono ?_)
      rintro e w4 ⟨rfl, hb4⟩
      go_wp2_with fail
      go_ret
      exact ⟨rfl, bt hb.out hb4⟩
end Go.Proofs.Ytimpngmmmoaejaa.ChanP
