/-
  Contract of footwayref17's Copies.
-/
import Derived.Test.YtgcmklliafcffaaFloodV
import Derived.Test.YtgcmklliafcffaaFloodY
import Derived.BigRegion
namespace Go.Proofs.Ytgcmklliafcffaa.LanP
open Go.RowKit Go.Sort Go.Proofs.Ytgcmklliafcffaa.SliceP Go.Proofs.Ytgcmklliafcffaa.BoxP
open Go.Proofs.Ytgcmklliafcffaa.IntP (RowI SlI OwnI)
open Go.Proofs.Ytgcmklliafcffaa.BoolP (RowB SlB OwnB)
open Go.Proofs.Ytgcmklliafcffaa.MacP (arr_out Wrote wp_region_ends outM)
set_option linter.unusedVariables false
set_option maxRecDepth 100000
def upT (p : P) (y : List Bool) (j : Nat) : List Int := ((opTo p y j).filter Lk.up).map Lk.seg
theorem upT_all (p : P) (y : List Bool) : upT p y p.ports.length = ups (opP p y) := rfl
theorem upT_succ (p : P) (y : List Bool) (j : Nat) : upT p y (j + 1) = upT p y j ++ if (opX p y j).up = true then [(opX p y j).seg] else [] := by
  unfold upT
  rw [opTo_succ, List.filter_append, List.map_append]
  congr 1
  cases h : (opX p y j).up
  · simp [h]
  · simp [h]
theorem upT_len (p : P) (y : List Bool) (j : Nat) : (upT p y j).length ≤ j := by
  unfold upT
  rw [List.length_map]
  have := List.length_filter_le Lk.up (opTo p y j)
  rw [opTo_len] at this; exact this
theorem opX_is {p : P} {y : List Bool} {j : Nat} {x : Lk} {v : Bool} (hx : p.ports[j]? = some x) (hv : y[j]? = some v) : (opX p y j).up = (x.up && v) ∧ (opX p y j).seg = x.seg := by
  unfold opX
  rw [List.getD_eq_getElem?_getD, hx, List.getD_eq_getElem?_getD, hv]; exact ⟨rfl, rfl⟩
def someT (g : Int → Int) (U : List Int) : Bool := U.any fun x => g x != -1
theorem someT_snoc (g : Int → Int) (U : List Int) (x : Int) : someT g (U ++ [x]) = (someT g U || (g x != -1)) := by unfold someT; rw [List.any_append]; simp
theorem ne_one {v : Int} (h : -1 ≤ v) : (v != -1) = decide (0 ≤ v) := by
  by_cases q : 0 ≤ v
  · rw [decide_eq_true q]; simp; omega
  · rw [decide_eq_false q]; simp; omega
theorem cpB_op {l : L} {O : List (List Bool)} {f : Int} {b : Nat} {p : P} {y : List Bool} (hb : b < l.plans.length) (hp : pl l b = p) (hy : O.getD b [] = y) : cpB (l.op O) f b = if someT ((l.op O).dst f) (upT p y p.ports.length) = true then ((upT p y p.ports.length).length : Int) - 1 else 0 := by
  unfold cpB someT
  rw [op_pl hb, hp, hy, upT_all]
set_option maxHeartbeats 16000000 in
theorem t_copies {l : L} {A : Option Addr} {c : Nat} {B : Option Addr} {d : Nat} {w : World} {O : List (List Bool)} {C : Option Addr} {e : Nat} (hr : LanR w l A c B d) (hs : Small l) (hR : RowL bc w C O.length e O) (hw : rowsB l O = true) (hfit : l.fit) (h8 : l.n ≤ 8) {f : Nat} (hfn : f < l.n) :
    Calls Try.prog 33 #[lv l A c B d, .slice C O.length e, .int .i64 (f : Int)] w fun en w' => en = .returned (.int .i64 ((l.op O).copies (f : Int))) ∧ Below w.heap.size w w' := by
  have hn : (l.n : Int) = l.segs := by have := hfit.1; unfold L.n; omega
  have hn8 := hs.plans
  have hrl := Lib.hid (rows_len hw)
  have hTS := Lib.hid (fun (W : World) (hW : Below w.heap.size w W) => t_steps (hr.below hW) hs (hR.below hW) hw h8 hfn)
  have hdi := Lib.hid (dst_is (op_fit hfit O) (f := (f : Int)) (by omega) (by rw [op_segs]; omega))
  have hcpB := Lib.hid (fun b hb p y hp hy => cpB_op (l := l) (O := O) (f := (f : Int)) (b := b) (p := p) (y := y) hb hp hy)
  have hcle := Lib.hid (fun k hk => cpTo_le (op_small O hs) (f : Int) k (by rw [op_len]; exact hk))
  have hcsu := Lib.hid (cpTo_succ (l.op O) (f : Int))
  have hres : (l.op O).copies (f : Int) = cpTo (l.op O) (f : Int) l.plans.length := by unfold L.copies; rw [op_len]
  rw [hres]
  have hat : ∀ k : Nat, (k : Int) < l.segs → (stpR (l.op O) (f : Int))[k]? = some ((l.op O).dst (f : Int) (k : Int)) := fun k hk => stp_at (op_fit hfit O) (by rw [op_segs]; omega)
  have hlen : ((stpR (l.op O) (f : Int)).length : Int) = l.segs := by rw [stp_len, op_n]; exact hn
  have hge : ∀ t : Int, 0 ≤ t → t < l.segs → -1 ≤ (l.op O).dst (f : Int) t := fun t t0 t1 => hdi.out.ge t t0 (by rw [op_segs]; exact t1)
  have hin : ∀ (b : Nat) (p : P) (x : Lk) , l.plans[b]? = some p → x ∈ p.ports → x.up = true → 0 ≤ x.seg ∧ x.seg < l.segs := fun b p x hp hx hu => hfit.2 p (List.mem_of_getElem? hp) x.seg (mem_ups.2 ⟨x, hx, hu, rfl⟩)
  obtain ⟨G, hG⟩ : ∃ g, (l.op O).dst (f : Int) = g := ⟨_, rfl⟩
  obtain ⟨CP, hCP⟩ : ∃ g, cpTo (l.op O) (f : Int) = g := ⟨_, rfl⟩
  obtain ⟨RS, hRS⟩ : ∃ r, stpR (l.op O) (f : Int) = r := ⟨_, rfl⟩
  rw [hG] at hat hge hcpB
  rw [hRS] at hat hlen hTS
  rw [hCP] at hcle hcsu ⊢
  clear hdi hres
  obtain ⟨w0, hw0, X0, R0, B0⟩ := new3 w hr
  have HP := Lib.hid R0.plans
  have HO := Lib.hid (hR.below B0)
  have hpm := Lib.hid hs.ports
  have hcp0 := Lib.hid (show CP 0 = 0 by rw [← hCP]; rfl)
  replace hat := Lib.hid hat
  replace hlen := Lib.hid hlen
  replace hge := Lib.hid hge
  replace hin := Lib.hid hin
  replace X0 := Lib.hid X0
  replace B0 := Lib.hid B0
  replace hG := Lib.hid hG
  replace hCP := Lib.hid hCP
  replace hRS := Lib.hid hRS
  replace hs := Lib.hid hs
  replace hw := Lib.hid hw
  replace hfit := Lib.hid hfit
  replace hn := Lib.hid hn
  clear hr hR R0
  go_enter Try.func33, Try.ntmps33
  go_upto_region 1 with fail
  rw [← hw0]
  clear hw0
  have x0 := X0.out.c (i := 0) rfl
  have x1 := X0.out.c (i := 1) rfl
  have x2 := X0.out.c (i := 2) rfl
  have zz := X0.out.lt
  go_wp2_with fail
  go_at_call 30
  (with_reducible refine (hTS.out _ B0.out).mono ?_)
  rintro en w1 ⟨AS, cS, rfl, rS, fS, hb1⟩
  have RSr := Lib.hid rS
  have X1 := Lib.hid (X0.out.below hb1)
  have B1 := Lib.hid (bt B0.out hb1)
  have HP1 := Lib.hid (HP.out.below hb1)
  have HO1 := Lib.hid (HO.out.below hb1)
  clear x0 x1 x2 zz hb1 rS fS hTS
  have x1 := X1.out.c (i := 1) rfl
  have zz := X1.out.lt
  go_wp2_with fail
  clear x1 zz
  go_loopw [8, 9, 11, 12, 13, 22] (fun v8 v9 v11 v12 v13 i wr => ∃ k : Nat, k ≤ l.plans.length ∧ i = .int .i64 k ∧ v8 = .int .i64 (CP k) ∧ Below w1.heap.size w1 wr) (fun _ _ _ _ _ i _ => l.plans.length - (intOf i).toNat)
  case atStart => exact ⟨0, by omega, rfl, by rw [hcp0.out], Below.refl _ _⟩
  case round =>
    obtain ⟨k, hk, rfl, rfl, hb⟩ := hrel
    obtain ⟨wo, hwo⟩ : ∃ W, W = wr := ⟨_, rfl⟩
    subst hwo
    by_cases hkn : k < l.plans.length
    · have hkl : (k : Int) < (l.plans.length : Int) := by omega
      have hkO : k < O.length := by rw [hrl.out.1]; exact hkn
      have hko : (k : Int) < (O.length : Int) := by omega
      obtain ⟨p, hp⟩ : ∃ p, l.plans[k]? = some p := ⟨_, List.getElem?_eq_getElem hkn⟩
      obtain ⟨y, hy⟩ : ∃ y, O[k]? = some y := ⟨_, List.getElem?_eq_getElem hkO⟩
      have hpp : pl l k = p := by have := plan_get hkn; rw [hp] at this; exact (Option.some.inj this).symm
      have hyy : O.getD k [] = y := by rw [List.getD_eq_getElem?_getD, hy]; rfl
      have hyl : y.length = p.ports.length := by have := hrl.out.2 k hkn; rw [hyy, hpp] at this; exact this
      have hcb := hcpB.out k hkn p y hpp hyy
      have hcl := hcle.out k (by omega)
      have hcs := hcsu.out k
      rw [hcb] at hcs
      have hinp := Lib.hid (fun x => hin.out k p x hp)
      have hp10 := hpm.out p (List.mem_of_getElem? hp)
      obtain ⟨bS8, oS8, A8, c8, hAS8, hbS8, q8_0, q8_1, hrow8⟩ := RowP.at_ (HP1.out.below hb) hp
      obtain ⟨b5, o5, A6, c6, hCC, hb5, u0, ROW⟩ := (HO1.out.below hb).at_ hy
      subst hAS8; subst hCC
      obtain ⟨N, hN⟩ : ∃ N, CP k = N := ⟨_, rfl⟩
      rw [hN] at hcl hcs ⊢
      obtain ⟨w8, hw8⟩ : ∃ W, W = wo.alloc (.cells #[.int .i64 p.id, .slice A8 p.ports.length c8] 60) := ⟨_, rfl⟩
      obtain ⟨b7, hb7⟩ : ∃ b, b = wo.heap.size := ⟨_, rfl⟩
      have bb8 : Below wo.heap.size wo w8 := by rw [hw8]; exact (Below.refl _ _).alloc (Nat.le_refl _) _
      have X8 := Lib.hid (show Bx w8 b7 60 #[.int .i64 p.id, .slice A8 p.ports.length c8] by rw [hw8]; exact Bx.new _ _ _ hb7.symm)
      have U8 := Lib.hid (cellb bb8 hb5 u0)
      have Z8 := Lib.hid (Nat.lt_of_lt_of_le hb5 bb8.size)
      have ROW8 := Lib.hid (ROW.below bb8)
      have KR8 := Lib.hid (hrow8.below bb8)
      have S8 := Lib.hid (RSr.out.below (bt hb bb8))
      have b8 := Lib.hid (bt hb bb8)
      replace hp := Lib.hid hp
      replace hy := Lib.hid hy
      replace hpp := Lib.hid hpp
      replace hyy := Lib.hid hyy
      replace hyl := Lib.hid hyl
      replace hcb := Lib.hid hcb
      replace hcs := Lib.hid hcs
      replace hN := Lib.hid hN
      clear hb bb8 hrow8 ROW u0 hb5
      go_upto_region 6 with fail
      rw [← hw8, ← hb7]
      clear hw8 hb7 q8_0 q8_1 hbS8
      have o1 := X8.out.c (i := 1) rfl
      have zz := X8.out.lt
      go_wp2_with fail
      clear o1 zz
      go_loopw [11, 12, 13, 30] (fun v11 v12 v13 i wr => ∃ j : Nat, j ≤ p.ports.length ∧ i = .int .i64 j ∧ v11 = .int .i64 ((upT p y j).length : Int) ∧ v12 = .bool (someT G (upT p y j)) ∧ Below w8.heap.size w8 wr) (fun _ _ _ i _ => p.ports.length - (intOf i).toNat)
      case atStart => exact ⟨0, by omega, rfl, rfl, rfl, Below.refl _ _⟩
      case round =>
        obtain ⟨j, hj, rfl, rfl, rfl, hb⟩ := hrel
        obtain ⟨wi, hwi⟩ : ∃ W, W = wr := ⟨_, rfl⟩
        subst hwi
        have hul := upT_len p y j
        by_cases hjn : j < p.ports.length
        · have hjl : (j : Int) < (p.ports.length : Int) := by omega
          obtain ⟨x, hx⟩ : ∃ x, p.ports[j]? = some x := ⟨_, List.getElem?_eq_getElem hjn⟩
          obtain ⟨vo, hvo⟩ : ∃ v, y[j]? = some v := ⟨_, List.getElem?_eq_getElem (by have := hyl.out; omega)⟩
          have hyj : (j : Int) < (y.length : Int) := by have := hyl.out; omega
          have hsu := upT_succ p y j
          rw [(opX_is hx hvo).1, (opX_is hx hvo).2] at hsu
          have hsn := someT_snoc G (upT p y j) x.seg
          have hxin := hinp.out x (List.mem_of_getElem? hx)
          obtain ⟨bK, oK, hA6, hbK, k0, k1, k2⟩ := (KR8.out.below hb).kat hx
          subst hA6
          obtain ⟨b12, hb12⟩ : ∃ b, b = wi.heap.size := ⟨_, rfl⟩
          obtain ⟨w12, hw12⟩ : ∃ W, W = wi.alloc (.cells #[.int .i64 x.seg, .int .i64 x.cost, .bool x.up] 57) := ⟨_, rfl⟩
          have bb12 : Below wi.heap.size wi w12 := by rw [hw12]; exact (Below.refl _ _).alloc (Nat.le_refl _) _
          have X12 := Lib.hid (show Bx w12 b12 57 #[.int .i64 x.seg, .int .i64 x.cost, .bool x.up] by rw [hw12]; exact Bx.new _ _ _ hb12.symm)
          have bb := Lib.hid (bt hb bb12)
          replace hx := Lib.hid hx
          replace hvo := Lib.hid hvo
          clear hb bb12
          obtain ⟨Z, hZ⟩ : ∃ z : Int, ((upT p y j).length : Int) = z := ⟨_, rfl⟩
          obtain ⟨sm, hsm⟩ : ∃ z, someT G (upT p y j) = z := ⟨_, rfl⟩
          have hZ0 : 0 ≤ Z ∧ Z ≤ 10 := by omega
          rw [hZ, hsm]
          rw [hsm] at hsn
          have hlen9 : ((upT p y j ++ [x.seg]).length : Int) = Z + 1 := by rw [List.length_append]; simp; omega
          replace hlen9 := Lib.hid hlen9
          replace hsn := Lib.hid hsn
          replace hZ := Lib.hid hZ
          replace hsm := Lib.hid hsm
          replace hsu := Lib.hid hsu
          go_upto_region 11 with fail
          rw [← hw12, ← hb12]
          clear hw12 hb12 k0 k1 k2 hbK
          obtain ⟨bR, oR, hA5, hbR, r3⟩ := (ROW8.out.below bb.out).bat hvo.out
          subst hA5
          have u0 := cellb bb.out Z8.out U8.out
          have zu := Nat.lt_of_lt_of_le Z8.out bb.out.size
          have e0 := X12.out.c (i := 0) rfl
          have e2 := X12.out.c (i := 2) rfl
          have ze := X12.out.lt
          obtain ⟨ux, hux⟩ : ∃ u, x.up = u := ⟨_, rfl⟩
          rw [hux] at e2 hxin
          have hsu9 := hsu.out
          rw [hux] at hsu9
          have hsu := Lib.hid hsu9
          clear hsu9
          replace hux := Lib.hid hux
          cases ux
          · have hc9 := Lib.hid (show ((upT p y (j + 1)).length : Int) = Z by rw [hsu.out]; simpa using hZ.out)
            have hs9 := Lib.hid (show someT G (upT p y (j + 1)) = sm by rw [hsu.out]; simpa using hsm.out)
            replace hxin := Lib.hid hxin
            go_wp2_with fail
            go_roundw
            case rel => exact ⟨j + 1, by omega, by go_num, by rw [hc9.out], by rw [hs9.out], bb.out⟩
            case measure => simp [intOf]; omega
          · have hxi := hxin rfl
            replace hxin := Lib.hid hxin
            cases vo
            · have hc9 := Lib.hid (show ((upT p y (j + 1)).length : Int) = Z by rw [hsu.out]; simpa using hZ.out)
              have hs9 := Lib.hid (show someT G (upT p y (j + 1)) = sm by rw [hsu.out]; simpa using hsm.out)
              go_wp2_with fail
              go_roundw
              case rel => exact ⟨j + 1, by omega, by go_num, by rw [hc9.out], by rw [hs9.out], bb.out⟩
              case measure => simp [intOf]; omega
            · have hc9 := Lib.hid (show ((upT p y (j + 1)).length : Int) = Z + 1 by rw [hsu.out]; exact hlen9.out)
              have hs8 := Lib.hid (show someT G (upT p y (j + 1)) = (sm || (G x.seg != -1)) by rw [hsu.out]; exact hsn.out)
              cases sm
              · obtain ⟨q, hq⟩ : ∃ q : Nat, x.seg = (q : Int) := ⟨x.seg.toNat, by omega⟩
                have hga := hat.out q (by omega)
                have hgg := hge.out (q : Int) (by omega) (by omega)
                rw [hq] at e0 hs8 hxi
                obtain ⟨v, hv⟩ : ∃ v, G (q : Int) = v := ⟨_, rfl⟩
                rw [hv] at hga hgg hs8
                rw [ne_one hgg, Bool.false_or] at hs8
                obtain ⟨gP, oP, hAP, hgP, j0⟩ := Row.iat (S8.out.below bb.out) hga
                subst hAP
                have hql : (q : Int) < (RS.length : Int) := by rw [hlen.out]; exact hxi.2
                replace hga := Lib.hid hga
                replace hv := Lib.hid hv
                replace hq := Lib.hid hq
                by_cases h0 : 0 ≤ v
                · have hs9 := Lib.hid (show someT G (upT p y (j + 1)) = true by rw [hs8.out, decide_eq_true h0])
                  go_wp2_with fail
                  go_roundw
                  case rel => exact ⟨j + 1, by omega, by go_num, by rw [hc9.out], by rw [hs9.out], bb.out⟩
                  case measure => simp [intOf]; omega
                · have hs9 := Lib.hid (show someT G (upT p y (j + 1)) = false by rw [hs8.out, decide_eq_false h0])
                  go_wp2_with fail
                  go_roundw
                  case rel => exact ⟨j + 1, by omega, by go_num, by rw [hc9.out], by rw [hs9.out], bb.out⟩
                  case measure => simp [intOf]; omega
              · have hs9 := Lib.hid (show someT G (upT p y (j + 1)) = true by rw [hs8.out]; rfl)
                go_wp2_with fail
                go_roundw
                case rel => exact ⟨j + 1, by omega, by go_num, by rw [hc9.out], by rw [hs9.out], bb.out⟩
                case measure => simp [intOf]; omega
        · obtain rfl : j = p.ports.length := by omega
          have b9 := Lib.hid (bt b8.out hb)
          obtain ⟨sm, hsm⟩ : ∃ z, someT G (upT p y p.ports.length) = z := ⟨_, rfl⟩
          obtain ⟨Z, hZ⟩ : ∃ z : Int, ((upT p y p.ports.length).length : Int) = z := ⟨_, rfl⟩
          have hZ0 : 0 ≤ Z ∧ Z ≤ 10 := by omega
          have hcs9 := hcs.out
          rw [hsm, hZ] at hcs9
          rw [hsm, hZ]
          replace hsm := Lib.hid hsm
          replace hZ := Lib.hid hZ
          clear hb
          have hNb : 0 ≤ N ∧ N ≤ 1000 := by omega
          cases sm
          · have hc9 := Lib.hid (show CP (k + 1) = N by rw [hcs9]; simp)
            clear hcs9
            go_wp2_with fail
            go_roundw
            case rel => exact ⟨k + 1, by omega, by go_num, by rw [hc9.out], b9.out⟩
            case measure => simp [intOf]; omega
          · have hc9 := Lib.hid (show CP (k + 1) = N + Z - 1 by rw [hcs9]; simp; omega)
            clear hcs9
            go_wp2_with fail
            go_roundw
            case rel => exact ⟨k + 1, by omega, by go_num, by rw [hc9.out], b9.out⟩
            case measure => simp [intOf]; omega
    · obtain rfl : k = l.plans.length := by omega
      have b9 := Lib.hid (bt B1.out hb)
      clear hb
      go_wp2_with fail
      go_ret
      exact ⟨rfl, b9.out⟩
end Go.Proofs.Ytgcmklliafcffaa.LanP
