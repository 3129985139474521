/-
  RelayNever, by the contracts of relay's own functions.
-/
import Derived.Test.YtajihgpkaklgiaaRelT
namespace Go.Proofs.Ytajihgpkaklgiaa.RelP
open Go.RowKit Go.Sort Go.Proofs.Ytajihgpkaklgiaa.SliceP Go.Proofs.Ytajihgpkaklgiaa.BoxP
open Go.Proofs.Ytajihgpkaklgiaa.IntP (RowI SlI OwnI)
open Go.Proofs.Ytajihgpkaklgiaa.LruP (hasI without ref_has_is ref_without_any)
set_option linter.unusedVariables false
set_option maxRecDepth 100000
theorem egress_none (l : List St) (p : Nat) (o : Int) : egress l p 2 o = [] := by unfold egress; rw [if_pos rfl]
theorem egress_group (l : List St) (p : Nat) (o : Int) : egress l p 1 o = flood l p := by unfold egress; rw [if_neg (by decide), if_pos (.inl rfl)]
theorem egress_flood (l : List St) (p : Nat) : egress l p 0 (-1) = flood l p := by unfold egress; rw [if_neg (by decide), if_pos (.inr (by decide))]
set_option maxHeartbeats 16000000 in
theorem never_law (C : RelC) {A : Option Addr} {n c : Nat} {l0 : List St} {w : World} (hr0 : RowP w A n c l0) (hc : c ≤ 9223372036854775807) (p cl o : Int) :
    Calls Try.prog 4 #[.slice A n c, .int .i64 p, .int .i64 cl, .int .i64 o] w (True1 w) := by
  show Calls Try.prog 4 #[.slice A n c, .int .i64 p, .int .i64 cl, .int .i64 o] w fun e w' => e = .returned (.bool true) ∧ Below w.heap.size w w'
  have hf := Lib.hid (few_any hr0 hc)
  obtain ⟨l, hl⟩ : ∃ l, l0.take 12 = l := ⟨_, rfl⟩
  have hr := hr0.few
  rw [hl] at hr hf
  have hlen : l.length ≤ 12 := by rw [← hl, List.length_take]; omega
  have hrH := Lib.hid hr
  have cA := Lib.hid fun W => alive_any C W
  clear hl hr0 hr
  obtain ⟨er, her⟩ : ∃ er, why l p = er := ⟨_, rfl⟩
  go_enter Try.func4, Try.ntmps4
  go_wp2_with fail
  go_at_call 6
  (with_reducible refine hf.out.mono ?_)
  rintro e w0 ⟨rfl, rfl⟩
  clear hf
  by_cases he0 : er = 0
  · subst he0
    obtain ⟨hz1, hz2, hz3, hz4, hz5⟩ := why_zero her
    obtain ⟨k0, rfl⟩ : ∃ k : Nat, p = k := ⟨p.toNat, by omega⟩
    have hk : k0 < l.length := by omega
    have hkl : (k0 : Int) < (l.length : Int) := by omega
    have d0 : decide ((k0 : Int) < 0) = false := by simp
    have d1 : decide ((l.length : Int) ≤ (k0 : Int)) = false := by simp; omega
    have d2 : decide (l.length ≤ k0) = false := by simp; omega
    replace hz1 := Lib.hid hz1
    replace her := Lib.hid her
    have hfl := Lib.hid (flood_len l k0)
    have hel := Lib.hid (egress_len l k0 cl o)
    clear hz4 hz5
    go_wp2_with fail
    go_at_call 7
    (with_reducible refine (C.flood_ok hrH.out hlen her.out).mono ?_)
    rintro e w51 ⟨A1, c1, rfl, r1, hb51⟩
    have L_w51 := Lib.hid (hrH.out.below hb51)
    have Q_w51 := Lib.hid (r1)
    clear hrH
    clear r1
    obtain ⟨bb, hbb⟩ : ∃ b, badC cl o = b := ⟨_, rfl⟩
    cases bb with
    | true =>
      go_wp2_with fail
      go_at_call 8
      (with_reducible refine (C.egress_arg L_w51.out hlen her.out hbb).mono ?_)
      rintro e w62 ⟨A2, c2, rfl, hb62⟩
      have L_w62 := Lib.hid (L_w51.out.below hb62)
      have Q_w62 := Lib.hid (Q_w51.out.below hb62)
      have B_w62 := bt hb51 hb62
      clear L_w51 Q_w51 hb51 hb62
      replace hbb := Lib.hid hbb
      go_wp2_with fail
      go_at_call 11
      (with_reducible refine (cA.out _).mono ?_)
      rintro e w63 ⟨rfl, hb63⟩
      have L_w63 := Lib.hid (L_w62.out.below hb63)
      have Q_w63 := Lib.hid (Q_w62.out.below hb63)
      have B_w63 := bt B_w62 hb63
      clear L_w62 Q_w62 B_w62 hb63
      have hb9 := Lib.hid B_w63
      clear B_w63
      go_wp2_with fail
      go_ret
      exact ⟨rfl, hb9.out⟩
    | false =>
      have hbd : ¬ (cl < 0 ∨ 2 < cl ∨ o < -1 ∨ 7 < o) := fun h => by rw [bad_iff.2 h] at hbb; cases hbb
      go_wp2_with fail
      go_at_call 8
      (with_reducible refine (C.egress_ok L_w51.out hlen her.out hbb).mono ?_)
      rintro e w112 ⟨A2, c2, rfl, r2, hb112⟩
      have L_w112 := Lib.hid (L_w51.out.below hb112)
      have Q_w112 := Lib.hid (Q_w51.out.below hb112)
      have E_w112 := Lib.hid (r2)
      have B_w112 := bt hb51 hb112
      clear L_w51 Q_w51 hb51 hb112
      clear r2
      replace hbb := Lib.hid hbb
      have hcl : cl = 0 ∨ cl = 1 ∨ cl = 2 := by omega
      rcases hcl with rfl | rfl | rfl
      · have hee := fun i x (h : (egress l k0 0 o)[i]? = some x) => egress_at h
        have hlt := fun i x y (h : (egress l k0 0 o)[i]? = some x) k => egress_lt (y := y) h k
        obtain ⟨E, hE⟩ : ∃ E, egress l k0 0 o = E := ⟨_, rfl⟩
        have hEl := hel.out
        rw [hE] at E_w112 hee hlt hEl ⊢
        obtain ⟨Q, hQ⟩ : ∃ Q, flood l k0 = Q := ⟨_, rfl⟩
        have hQl := hfl.out
        rw [hQ] at Q_w112 hee hQl ⊢
        replace hee := Lib.hid hee
        replace hlt := Lib.hid hlt
        have hE' := Lib.hid hE
        have hQ' := Lib.hid hQ
        clear hE hQ
        go_wp2_with fail
        go_at_call 11
        (with_reducible refine (cA.out _).mono ?_)
        rintro e w213 ⟨rfl, hb213⟩
        have L_w213 := Lib.hid (L_w112.out.below hb213)
        have Q_w213 := Lib.hid (Q_w112.out.below hb213)
        have E_w213 := Lib.hid (E_w112.out.below hb213)
        have B_w213 := bt B_w112 hb213
        clear L_w112 Q_w112 E_w112 B_w112 hb213
        have hB := Lib.hid B_w213
        clear B_w213
        have L9 := L_w213
        have E9 := E_w213
        have Q9 := Q_w213
        go_wp2_with fail
        go_loopw [76] (fun i wr => ∃ k : Nat, k ≤ E.length ∧ i = .int .i64 k ∧ Below w213.heap.size w213 wr) (fun i _ => E.length - (intOf i).toNat)
        case atStart => exact ⟨0, by omega, rfl, Below.refl _ _⟩
        case round =>
          obtain ⟨k, hk9, rfl, hb9⟩ := hrel
          by_cases hkn : k < E.length
          · have hkl9 : (k : Int) < (E.length : Int) := by omega
            obtain ⟨x, hx⟩ : ∃ x, E[k]? = some x := ⟨_, List.getElem?_eq_getElem hkn⟩
            obtain ⟨j, h1, rfl, h3, h4, h5, h6⟩ := hee.out k x hx
            obtain ⟨bE, oE, hAE, hbE, x0⟩ := IntP.SlI.at_ (E9.out.below hb9).sl hx
            subst hAE
            obtain ⟨bS, oS, hAS, hbS, q0, _⟩ := SlP.at_ (L9.out.below hb9).sl (st_at h1)
            obtain ⟨bT, oT, hAT, hbT, p0, _⟩ := SlP.at_ (L9.out.below hb9).sl (st_at hk)
            subst hAS
            injection hAT with hAT
            injection hAT with e1 e2 e3
            subst e1; subst e2
            rw [h4] at q0
            rw [h3] at p0
            have h1' : (j : Int) < (l.length : Int) := by omega
            have h5' : ((j : Int) == (k0 : Int)) = false := by simp; omega
            have hH := Lib.hid (LruP.ref_has_is (Q9.out.below hb9) (j : Int) true h6 (by omega))
            have hb' := Lib.hid hb9
            have hlt' := Lib.hid fun i y (e : i + 1 = k) (h : E[i]? = some y) => hlt.out i y (j : Int) h (by rw [e]; exact hx)
            replace hx := Lib.hid hx
            clear h3 h4 h5 h6
            by_cases hk00 : k = 0
            · subst hk00
              rw [Nat.add_zero] at x0
              clear hb9
              go_wp2_with fail
              go_at_call 15
              (with_reducible refine hH.out.mono ?_)
              rintro e w66 ⟨rfl, rfl⟩
              go_wp2_with fail
              go_roundw
              case rel => exact ⟨1, by omega, by go_num, hb'.out⟩
              case measure => simp [intOf]; omega
            · obtain ⟨i, hik⟩ : ∃ i, i + 1 = k := ⟨k - 1, by omega⟩
              obtain ⟨y, hy⟩ : ∃ y, E[i]? = some y := ⟨_, List.getElem?_eq_getElem (by omega)⟩
              have hyx := hlt'.out i y hik hy
              obtain ⟨bF, oF, hAF, hbF, y0⟩ := IntP.SlI.at_ (E9.out.below hb9).sl hy
              injection hAF with hAF
              injection hAF with e1 e2 e3
              subst e1; subst e2
              have hsub : (k : Int) - 1 = (i : Int) := by omega
              have hpos : (0 : Int) < (k : Int) := by omega
              have hil : (i : Int) < (E.length : Int) := by omega
              have hyx' : ¬ (j : Int) ≤ y := by omega
              replace hy := Lib.hid hy
              replace hik := Lib.hid hik
              clear hb9
              go_wp2_with fail
              go_at_call 15
              (with_reducible refine hH.out.mono ?_)
              rintro e w66 ⟨rfl, rfl⟩
              go_wp2_with fail
              go_roundw
              case rel => exact ⟨k + 1, by omega, by go_num, hb'.out⟩
              case measure => simp [intOf]; omega
          · obtain rfl : k = E.length := by omega
            have Lr := Lib.hid (L9.out.below hb9)
            have Er := Lib.hid (E9.out.below hb9)
            have Qr := Lib.hid (Q9.out.below hb9)
            have Br := Lib.hid (bt hB.out hb9)
            clear hb9
            by_cases ho : o = -1
            · subst ho
              have hsm := Lib.hid (LruP.same_true Qr.out Er.out (by rw [← hQ'.out, ← hE'.out, egress_flood]) (by omega))
              go_wp2_with fail
              go_at_call 12
              (with_reducible refine hsm.out.mono ?_)
              rintro e w67 ⟨rfl, hb67⟩
              have B67 := Lib.hid (bt Br.out hb67)
              clear hb67
              go_wp2_with fail
              go_ret
              exact ⟨rfl, B67.out⟩
            · have ho' : (o == -1) = false := by simpa using ho
              have hone := egress_one (l := l) (p := k0) (o := o) (by omega)
              rw [hE'.out, hQ'.out] at hone
              obtain ⟨hb, hhb⟩ : ∃ b, hasI Q o = b := ⟨_, rfl⟩
              rw [hhb] at hone
              have hH := Lib.hid (LruP.ref_has_is Qr.out o hb hhb (by omega))
              replace ho := Lib.hid ho
              replace hhb := Lib.hid hhb
              cases hb with
              | false =>
                have h0 : E.length = 0 := by rw [hone]; rfl
                replace hone := Lib.hid hone
                go_wp2_with fail
                go_at_call 15
                (with_reducible refine hH.out.mono ?_)
                rintro e w67 ⟨rfl, rfl⟩
                go_wp2_with fail
                go_ret
                exact ⟨rfl, Br.out⟩
              | true =>
                have h0 : E.length = 1 := by rw [hone]; rfl
                obtain ⟨bE, oE, hAE, hbE, x0⟩ := IntP.SlI.at_ Er.out.sl (k := 0) (x := o) (by rw [hone]; rfl)
                subst hAE
                rw [Nat.add_zero] at x0
                replace hone := Lib.hid hone
                go_wp2_with fail
                go_at_call 15
                (with_reducible refine hH.out.mono ?_)
                rintro e w67 ⟨rfl, rfl⟩
                go_wp2_with fail
                go_ret
                exact ⟨rfl, Br.out⟩
      · have hee := fun i x (h : (egress l k0 1 o)[i]? = some x) => egress_at h
        have hlt := fun i x y (h : (egress l k0 1 o)[i]? = some x) k => egress_lt (y := y) h k
        obtain ⟨E, hE⟩ : ∃ E, egress l k0 1 o = E := ⟨_, rfl⟩
        have hEl := hel.out
        rw [hE] at E_w112 hee hlt hEl ⊢
        obtain ⟨Q, hQ⟩ : ∃ Q, flood l k0 = Q := ⟨_, rfl⟩
        have hQl := hfl.out
        rw [hQ] at Q_w112 hee hQl ⊢
        replace hee := Lib.hid hee
        replace hlt := Lib.hid hlt
        have hE' := Lib.hid hE
        have hQ' := Lib.hid hQ
        clear hE hQ
        have hg : Q = E := by rw [← hQ'.out, ← hE'.out, egress_group]
        have hsm := Lib.hid fun (W : World) (h1 : RowI W A1 Q.length c1 Q) (h2 : RowI W A2 E.length c2 E) => LruP.same_true h1 h2 hg (by omega)
        replace hg := Lib.hid hg
        go_wp2_with fail
        go_at_call 12
        (with_reducible refine (hsm.out _ Q_w112.out E_w112.out).mono ?_)
        rintro e w313 ⟨rfl, hb313⟩
        have L_w313 := Lib.hid (L_w112.out.below hb313)
        have Q_w313 := Lib.hid (Q_w112.out.below hb313)
        have E_w313 := Lib.hid (E_w112.out.below hb313)
        have B_w313 := bt B_w112 hb313
        clear L_w112 Q_w112 E_w112 B_w112 hb313
        clear hsm
        go_wp2_with fail
        go_at_call 11
        (with_reducible refine (cA.out _).mono ?_)
        rintro e w314 ⟨rfl, hb314⟩
        have L_w314 := Lib.hid (L_w313.out.below hb314)
        have Q_w314 := Lib.hid (Q_w313.out.below hb314)
        have E_w314 := Lib.hid (E_w313.out.below hb314)
        have B_w314 := bt B_w313 hb314
        clear L_w313 Q_w313 E_w313 B_w313 hb314
        have hB := Lib.hid B_w314
        clear B_w314
        have L9 := L_w314
        have E9 := E_w314
        have Q9 := Q_w314
        go_wp2_with fail
        go_loopw [76] (fun i wr => ∃ k : Nat, k ≤ E.length ∧ i = .int .i64 k ∧ Below w314.heap.size w314 wr) (fun i _ => E.length - (intOf i).toNat)
        case atStart => exact ⟨0, by omega, rfl, Below.refl _ _⟩
        case round =>
          obtain ⟨k, hk9, rfl, hb9⟩ := hrel
          by_cases hkn : k < E.length
          · have hkl9 : (k : Int) < (E.length : Int) := by omega
            obtain ⟨x, hx⟩ : ∃ x, E[k]? = some x := ⟨_, List.getElem?_eq_getElem hkn⟩
            obtain ⟨j, h1, rfl, h3, h4, h5, h6⟩ := hee.out k x hx
            obtain ⟨bE, oE, hAE, hbE, x0⟩ := IntP.SlI.at_ (E9.out.below hb9).sl hx
            subst hAE
            obtain ⟨bS, oS, hAS, hbS, q0, _⟩ := SlP.at_ (L9.out.below hb9).sl (st_at h1)
            obtain ⟨bT, oT, hAT, hbT, p0, _⟩ := SlP.at_ (L9.out.below hb9).sl (st_at hk)
            subst hAS
            injection hAT with hAT
            injection hAT with e1 e2 e3
            subst e1; subst e2
            rw [h4] at q0
            rw [h3] at p0
            have h1' : (j : Int) < (l.length : Int) := by omega
            have h5' : ((j : Int) == (k0 : Int)) = false := by simp; omega
            have hH := Lib.hid (LruP.ref_has_is (Q9.out.below hb9) (j : Int) true h6 (by omega))
            have hb' := Lib.hid hb9
            have hlt' := Lib.hid fun i y (e : i + 1 = k) (h : E[i]? = some y) => hlt.out i y (j : Int) h (by rw [e]; exact hx)
            replace hx := Lib.hid hx
            clear h3 h4 h5 h6
            by_cases hk00 : k = 0
            · subst hk00
              rw [Nat.add_zero] at x0
              clear hb9
              go_wp2_with fail
              go_at_call 15
              (with_reducible refine hH.out.mono ?_)
              rintro e w66 ⟨rfl, rfl⟩
              go_wp2_with fail
              go_roundw
              case rel => exact ⟨1, by omega, by go_num, hb'.out⟩
              case measure => simp [intOf]; omega
            · obtain ⟨i, hik⟩ : ∃ i, i + 1 = k := ⟨k - 1, by omega⟩
              obtain ⟨y, hy⟩ : ∃ y, E[i]? = some y := ⟨_, List.getElem?_eq_getElem (by omega)⟩
              have hyx := hlt'.out i y hik hy
              obtain ⟨bF, oF, hAF, hbF, y0⟩ := IntP.SlI.at_ (E9.out.below hb9).sl hy
              injection hAF with hAF
              injection hAF with e1 e2 e3
              subst e1; subst e2
              have hsub : (k : Int) - 1 = (i : Int) := by omega
              have hpos : (0 : Int) < (k : Int) := by omega
              have hil : (i : Int) < (E.length : Int) := by omega
              have hyx' : ¬ (j : Int) ≤ y := by omega
              replace hy := Lib.hid hy
              replace hik := Lib.hid hik
              clear hb9
              go_wp2_with fail
              go_at_call 15
              (with_reducible refine hH.out.mono ?_)
              rintro e w66 ⟨rfl, rfl⟩
              go_wp2_with fail
              go_roundw
              case rel => exact ⟨k + 1, by omega, by go_num, hb'.out⟩
              case measure => simp [intOf]; omega
          · obtain rfl : k = E.length := by omega
            have Lr := Lib.hid (L9.out.below hb9)
            have Er := Lib.hid (E9.out.below hb9)
            have Qr := Lib.hid (Q9.out.below hb9)
            have Br := Lib.hid (bt hB.out hb9)
            clear hb9
            go_wp2_with fail
            go_ret
            exact ⟨rfl, Br.out⟩
      · have hee := fun i x (h : (egress l k0 2 o)[i]? = some x) => egress_at h
        have hlt := fun i x y (h : (egress l k0 2 o)[i]? = some x) k => egress_lt (y := y) h k
        obtain ⟨E, hE⟩ : ∃ E, egress l k0 2 o = E := ⟨_, rfl⟩
        have hEl := hel.out
        rw [hE] at E_w112 hee hlt hEl ⊢
        obtain ⟨Q, hQ⟩ : ∃ Q, flood l k0 = Q := ⟨_, rfl⟩
        have hQl := hfl.out
        rw [hQ] at Q_w112 hee hQl ⊢
        replace hee := Lib.hid hee
        replace hlt := Lib.hid hlt
        have hE' := Lib.hid hE
        have hQ' := Lib.hid hQ
        clear hE hQ
        have hg0 : E.length = 0 := by rw [← hE'.out, egress_none]; rfl
        go_wp2_with fail
        go_at_call 11
        (with_reducible refine (cA.out _).mono ?_)
        rintro e w413 ⟨rfl, hb413⟩
        have L_w413 := Lib.hid (L_w112.out.below hb413)
        have Q_w413 := Lib.hid (Q_w112.out.below hb413)
        have E_w413 := Lib.hid (E_w112.out.below hb413)
        have B_w413 := bt B_w112 hb413
        clear L_w112 Q_w112 E_w112 B_w112 hb413
        have hB := Lib.hid B_w413
        clear B_w413
        have L9 := L_w413
        have E9 := E_w413
        have Q9 := Q_w413
        go_wp2_with fail
        go_loopw [76] (fun i wr => ∃ k : Nat, k ≤ E.length ∧ i = .int .i64 k ∧ Below w413.heap.size w413 wr) (fun i _ => E.length - (intOf i).toNat)
        case atStart => exact ⟨0, by omega, rfl, Below.refl _ _⟩
        case round =>
          obtain ⟨k, hk9, rfl, hb9⟩ := hrel
          by_cases hkn : k < E.length
          · exfalso; omega
          · obtain rfl : k = E.length := by omega
            have Lr := Lib.hid (L9.out.below hb9)
            have Er := Lib.hid (E9.out.below hb9)
            have Qr := Lib.hid (Q9.out.below hb9)
            have Br := Lib.hid (bt hB.out hb9)
            clear hb9
            go_wp2_with fail
            go_ret
            exact ⟨rfl, Br.out⟩
  · have hne : (er != 0) = true := by simpa using he0
    replace he0 := Lib.hid he0
    go_wp2_with fail
    go_at_call 7
    (with_reducible refine (C.flood_no hrH.out hlen her he0.out).mono ?_)
    rintro e w21 ⟨A1, c1, rfl, hb21⟩
    have L_w21 := Lib.hid (hrH.out.below hb21)
    clear hrH
    go_wp2_with fail
    go_at_call 8
    (with_reducible refine (C.egress_no (cl := cl) (o := o) L_w21.out hlen her he0.out).mono ?_)
    rintro e w22 ⟨A2, c2, rfl, hb22⟩
    have L_w22 := Lib.hid (L_w21.out.below hb22)
    have B_w22 := bt hb21 hb22
    clear L_w21 hb21 hb22
    go_wp2_with fail
    go_at_call 11
    (with_reducible refine (cA.out _).mono ?_)
    rintro e w23 ⟨rfl, hb23⟩
    have L_w23 := Lib.hid (L_w22.out.below hb23)
    have B_w23 := bt B_w22 hb23
    clear L_w22 B_w22 hb23
    have hb9 := Lib.hid B_w23
    clear B_w23
    replace her := Lib.hid her
    go_wp2_with fail
    go_ret
    exact ⟨rfl, hb9.out⟩
end Go.Proofs.Ytajihgpkaklgiaa.RelP
