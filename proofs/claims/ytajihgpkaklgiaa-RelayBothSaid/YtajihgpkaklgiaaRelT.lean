/-
  RelayTells, by the contracts of relay's own functions.
-/
import Derived.Test.YtajihgpkaklgiaaRelC
namespace Go.Proofs.Ytajihgpkaklgiaa.RelP
open Go.RowKit Go.Sort Go.Proofs.Ytajihgpkaklgiaa.SliceP Go.Proofs.Ytajihgpkaklgiaa.BoxP
open Go.Proofs.Ytajihgpkaklgiaa.IntP (RowI SlI OwnI)
open Go.Proofs.Ytajihgpkaklgiaa.LruP (hasI without ref_has_is ref_without_any)
set_option linter.unusedVariables false
set_option maxRecDepth 100000
theorem bad_iff {cl o : Int} : badC cl o = true ↔ cl < 0 ∨ 2 < cl ∨ o < -1 ∨ 7 < o := by unfold badC; simp
set_option maxHeartbeats 16000000 in
theorem tells_law (C : RelC) {A : Option Addr} {n c : Nat} {l0 : List St} {w : World} (hr0 : RowP w A n c l0) (hc : c ≤ 9223372036854775807) (p cl o : Int) :
    Calls Try.prog 3 #[.slice A n c, .int .i64 p, .int .i64 cl, .int .i64 o] w (True1 w) := by
  show Calls Try.prog 3 #[.slice A n c, .int .i64 p, .int .i64 cl, .int .i64 o] w fun e w' => e = .returned (.bool true) ∧ Below w.heap.size w w'
  have hf := Lib.hid (few_any hr0 hc)
  obtain ⟨l, hl⟩ : ∃ l, l0.take 12 = l := ⟨_, rfl⟩
  have hr := hr0.few
  rw [hl] at hr hf
  have hlen : l.length ≤ 12 := by rw [← hl, List.length_take]; omega
  have hrH := Lib.hid hr
  have cA := Lib.hid fun W => alive_any C W
  clear hl hr0 hr
  obtain ⟨er, her⟩ : ∃ er, why l p = er := ⟨_, rfl⟩
  have cW := Lib.hid fun (W : World) (h : RowP W A l.length c l) => r_why h (by omega) p er her
  go_enter Try.func3, Try.ntmps3
  go_wp2_with fail
  go_at_call 6
  (with_reducible refine hf.out.mono ?_)
  rintro e w0 ⟨rfl, rfl⟩
  clear hf
  by_cases he0 : er = 0
  · subst he0
    obtain ⟨hz1, hz2, hz3, hz4, hz5⟩ := why_zero her
    obtain ⟨k, rfl⟩ : ∃ k : Nat, p = k := ⟨p.toNat, by omega⟩
    have hk : k < l.length := by omega
    have hkl : (k : Int) < (l.length : Int) := by omega
    replace hz1 := Lib.hid hz1
    replace her := Lib.hid her
    have cF := Lib.hid fun (W : World) (h : RowP W A l.length c l) => r_flood h (by omega) hk
    have cE := Lib.hid fun (W : World) (h : RowP W A l.length c l) => r_egress h (by omega) hk cl o
    have hfl := Lib.hid (flood_len l k)
    have hel := Lib.hid (egress_len l k cl o)
    clear hz4 hz5
    go_wp2_with fail
    go_at_call 7
    (with_reducible refine (C.flood_ok hrH.out hlen her.out).mono ?_)
    rintro e w51 ⟨A1, c1, rfl, r1, hb51⟩
    have L_w51 := Lib.hid (hrH.out.below hb51)
    have Q_w51 := Lib.hid (r1)
    clear hrH
    clear r1
    obtain ⟨bb, hbb⟩ : ∃ b, badC cl o = b := ⟨_, rfl⟩
    cases bb with
    | true =>
      have hbd := bad_iff.1 hbb
      go_wp2_with fail
      go_at_call 8
      (with_reducible refine (C.egress_arg L_w51.out hlen her.out hbb).mono ?_)
      rintro e w62 ⟨A2, c2, rfl, hb62⟩
      have L_w62 := Lib.hid (L_w51.out.below hb62)
      have Q_w62 := Lib.hid (Q_w51.out.below hb62)
      have B_w62 := bt hb51 hb62
      clear L_w51 Q_w51 hb51 hb62
      obtain ⟨x, hx⟩ : ∃ x, st l k = x := ⟨_, rfl⟩
      obtain ⟨b2, hb2⟩ : ∃ b, decide (2 ≤ x.1) = b := ⟨_, rfl⟩
      obtain ⟨b3, hb3⟩ : ∃ b, decide (x.1 = 3) = b := ⟨_, rfl⟩
      have hb4 : (x.1 == 3) = b3 := by rw [← hb3]; simp [BEq.beq]
      have cT := Lib.hid fun (W : World) (h : RowP W A l.length c l) => C.takes_ok h hlen her.out
      rw [hx, hb2, hb3] at cT
      go_wp2_with fail
      go_at_call 9
      (with_reducible refine (cT.out _ L_w62.out).mono ?_)
      rintro e w63 ⟨rfl, hb63⟩
      have L_w63 := Lib.hid (L_w62.out.below hb63)
      have Q_w63 := Lib.hid (Q_w62.out.below hb63)
      have B_w63 := bt B_w62 hb63
      clear L_w62 Q_w62 B_w62 hb63
      clear cT
      go_wp2_with fail
      go_at_call 10
      (with_reducible refine (cW.out _ L_w63.out).mono ?_)
      rintro e w64 ⟨rfl, hb64⟩
      have L_w64 := Lib.hid (L_w63.out.below hb64)
      have Q_w64 := Lib.hid (Q_w63.out.below hb64)
      have B_w64 := bt B_w63 hb64
      clear L_w63 Q_w63 B_w63 hb64
      clear cW
      go_wp2_with fail
      go_at_call 13
      (with_reducible refine (cF.out _ L_w64.out).mono ?_)
      rintro e w65 ⟨A4, c4, rfl, r4, _, hb65⟩
      have L_w65 := Lib.hid (L_w64.out.below hb65)
      have Q_w65 := Lib.hid (Q_w64.out.below hb65)
      have Q2_w65 := Lib.hid (r4)
      have B_w65 := bt B_w64 hb65
      clear L_w64 Q_w64 B_w64 hb65
      clear cF r4
      go_wp2_with fail
      go_at_call 12
      (with_reducible refine (LruP.same_true Q_w65.out Q2_w65.out rfl (by have := hfl.out; omega)).mono ?_)
      rintro e w66 ⟨rfl, hb66⟩
      have L_w66 := Lib.hid (L_w65.out.below hb66)
      have Q_w66 := Lib.hid (Q_w65.out.below hb66)
      have Q2_w66 := Lib.hid (Q2_w65.out.below hb66)
      have B_w66 := bt B_w65 hb66
      clear L_w65 Q_w65 Q2_w65 B_w65 hb66
      obtain ⟨bS, oS, hAS, hbS, q0, q1⟩ := SlP.at_ L_w66.out.sl (st_at hk)
      subst hAS
      rw [hx] at q0 q1
      replace hx := Lib.hid hx
      have hb2' := Lib.hid hb2
      have hb3' := Lib.hid hb3
      replace hbb := Lib.hid hbb
      have hb9 := Lib.hid B_w66
      clear B_w66
      cases b2 <;> cases b3
      all_goals
        rcases hbd with h | h | h | h
        all_goals
          go_wp2_with fail
          all_goals
            go_at_call 11
            (with_reducible refine (cA.out _).mono ?_)
            rintro e w167 ⟨rfl, hb167⟩
            have L_w167 := Lib.hid (L_w66.out.below hb167)
            have Q_w167 := Lib.hid (Q_w66.out.below hb167)
            have Q2_w167 := Lib.hid (Q2_w66.out.below hb167)
            clear L_w66 Q_w66 Q2_w66
            have hb10 := Lib.hid (bt hb9.out hb167)
            clear hb167
            go_wp2_with fail
            go_ret
            exact ⟨rfl, hb10.out⟩
    | false =>
      have hbd : ¬ (cl < 0 ∨ 2 < cl ∨ o < -1 ∨ 7 < o) := fun h => by rw [bad_iff.2 h] at hbb; cases hbb
      have g1 : ¬ cl < 0 := by omega
      have g2 : ¬ 2 < cl := by omega
      have g3 : ¬ o < -1 := by omega
      have g4 : ¬ 7 < o := by omega
      clear hbd
      go_wp2_with fail
      go_at_call 8
      (with_reducible refine (C.egress_ok L_w51.out hlen her.out hbb).mono ?_)
      rintro e w112 ⟨A2, c2, rfl, r2, hb112⟩
      have L_w112 := Lib.hid (L_w51.out.below hb112)
      have Q_w112 := Lib.hid (Q_w51.out.below hb112)
      have E_w112 := Lib.hid (r2)
      have B_w112 := bt hb51 hb112
      clear L_w51 Q_w51 hb51 hb112
      clear r2
      obtain ⟨x, hx⟩ : ∃ x, st l k = x := ⟨_, rfl⟩
      obtain ⟨b2, hb2⟩ : ∃ b, decide (2 ≤ x.1) = b := ⟨_, rfl⟩
      obtain ⟨b3, hb3⟩ : ∃ b, decide (x.1 = 3) = b := ⟨_, rfl⟩
      have hb4 : (x.1 == 3) = b3 := by rw [← hb3]; simp [BEq.beq]
      have cT := Lib.hid fun (W : World) (h : RowP W A l.length c l) => C.takes_ok h hlen her.out
      rw [hx, hb2, hb3] at cT
      go_wp2_with fail
      go_at_call 9
      (with_reducible refine (cT.out _ L_w112.out).mono ?_)
      rintro e w113 ⟨rfl, hb113⟩
      have L_w113 := Lib.hid (L_w112.out.below hb113)
      have Q_w113 := Lib.hid (Q_w112.out.below hb113)
      have E_w113 := Lib.hid (E_w112.out.below hb113)
      have B_w113 := bt B_w112 hb113
      clear L_w112 Q_w112 E_w112 B_w112 hb113
      clear cT
      go_wp2_with fail
      go_at_call 10
      (with_reducible refine (cW.out _ L_w113.out).mono ?_)
      rintro e w114 ⟨rfl, hb114⟩
      have L_w114 := Lib.hid (L_w113.out.below hb114)
      have Q_w114 := Lib.hid (Q_w113.out.below hb114)
      have E_w114 := Lib.hid (E_w113.out.below hb114)
      have B_w114 := bt B_w113 hb114
      clear L_w113 Q_w113 E_w113 B_w113 hb114
      clear cW
      go_wp2_with fail
      go_at_call 13
      (with_reducible refine (cF.out _ L_w114.out).mono ?_)
      rintro e w115 ⟨A4, c4, rfl, r4, _, hb115⟩
      have L_w115 := Lib.hid (L_w114.out.below hb115)
      have Q_w115 := Lib.hid (Q_w114.out.below hb115)
      have E_w115 := Lib.hid (E_w114.out.below hb115)
      have Q2_w115 := Lib.hid (r4)
      have B_w115 := bt B_w114 hb115
      clear L_w114 Q_w114 E_w114 B_w114 hb115
      clear cF r4
      go_wp2_with fail
      go_at_call 12
      (with_reducible refine (LruP.same_true Q_w115.out Q2_w115.out rfl (by have := hfl.out; omega)).mono ?_)
      rintro e w116 ⟨rfl, hb116⟩
      have L_w116 := Lib.hid (L_w115.out.below hb116)
      have Q_w116 := Lib.hid (Q_w115.out.below hb116)
      have E_w116 := Lib.hid (E_w115.out.below hb116)
      have Q2_w116 := Lib.hid (Q2_w115.out.below hb116)
      have B_w116 := bt B_w115 hb116
      clear L_w115 Q_w115 E_w115 Q2_w115 B_w115 hb116
      obtain ⟨bS, oS, hAS, hbS, q0, q1⟩ := SlP.at_ L_w116.out.sl (st_at hk)
      subst hAS
      rw [hx] at q0 q1
      replace hx := Lib.hid hx
      have hb2' := Lib.hid hb2
      have hb3' := Lib.hid hb3
      replace hbb := Lib.hid hbb
      cases b2 <;> cases b3
      all_goals
        go_wp2_with fail
        clear q0 q1 hbS
        go_at_call 11
        (with_reducible refine (cA.out _).mono ?_)
        rintro e w217 ⟨rfl, hb217⟩
        have L_w217 := Lib.hid (L_w116.out.below hb217)
        have Q_w217 := Lib.hid (Q_w116.out.below hb217)
        have E_w217 := Lib.hid (E_w116.out.below hb217)
        have Q2_w217 := Lib.hid (Q2_w116.out.below hb217)
        have B_w217 := bt B_w116 hb217
        clear L_w116 Q_w116 E_w116 Q2_w116 B_w116 hb217
        go_wp2_with fail
        go_at_call 14
        (with_reducible refine (cE.out _ L_w217.out).mono ?_)
        rintro e w218 ⟨A5, c5, rfl, r5, hb218⟩
        have L_w218 := Lib.hid (L_w217.out.below hb218)
        have Q_w218 := Lib.hid (Q_w217.out.below hb218)
        have E_w218 := Lib.hid (E_w217.out.below hb218)
        have Q2_w218 := Lib.hid (Q2_w217.out.below hb218)
        have E2_w218 := Lib.hid (r5)
        have B_w218 := bt B_w217 hb218
        clear L_w217 Q_w217 E_w217 Q2_w217 B_w217 hb218
        clear r5
        go_wp2_with fail
        go_at_call 12
        (with_reducible refine (LruP.same_true E_w218.out E2_w218.out rfl (by have := hel.out; omega)).mono ?_)
        rintro e w219 ⟨rfl, hb219⟩
        have L_w219 := Lib.hid (L_w218.out.below hb219)
        have Q_w219 := Lib.hid (Q_w218.out.below hb219)
        have E_w219 := Lib.hid (E_w218.out.below hb219)
        have Q2_w219 := Lib.hid (Q2_w218.out.below hb219)
        have E2_w219 := Lib.hid (E2_w218.out.below hb219)
        have B_w219 := bt B_w218 hb219
        clear L_w218 Q_w218 E_w218 Q2_w218 E2_w218 B_w218 hb219
        have hb10 := Lib.hid B_w219
        clear B_w219
        go_wp2_with fail
        go_ret
        exact ⟨rfl, hb10.out⟩
  · have hne : (er != 0) = true := by simpa using he0
    replace he0 := Lib.hid he0
    go_wp2_with fail
    go_at_call 7
    (with_reducible refine (C.flood_no hrH.out hlen her he0.out).mono ?_)
    rintro e w21 ⟨A1, c1, rfl, hb21⟩
    have L_w21 := Lib.hid (hrH.out.below hb21)
    clear hrH
    go_wp2_with fail
    go_at_call 8
    (with_reducible refine (C.egress_no (cl := cl) (o := o) L_w21.out hlen her he0.out).mono ?_)
    rintro e w22 ⟨A2, c2, rfl, hb22⟩
    have L_w22 := Lib.hid (L_w21.out.below hb22)
    have B_w22 := bt hb21 hb22
    clear L_w21 hb21 hb22
    go_wp2_with fail
    go_at_call 9
    (with_reducible refine (C.takes_no L_w22.out hlen her he0.out).mono ?_)
    rintro e w23 ⟨rfl, hb23⟩
    have L_w23 := Lib.hid (L_w22.out.below hb23)
    have B_w23 := bt B_w22 hb23
    clear L_w22 B_w22 hb23
    go_wp2_with fail
    go_at_call 10
    (with_reducible refine (cW.out _ L_w23.out).mono ?_)
    rintro e w24 ⟨rfl, hb24⟩
    have L_w24 := Lib.hid (L_w23.out.below hb24)
    have B_w24 := bt B_w23 hb24
    clear L_w23 B_w23 hb24
    go_wp2_with fail
    go_at_call 11
    (with_reducible refine (cA.out _).mono ?_)
    rintro e w25 ⟨rfl, hb25⟩
    have L_w25 := Lib.hid (L_w24.out.below hb25)
    have B_w25 := bt B_w24 hb25
    clear L_w24 B_w24 hb25
    have hb9 := Lib.hid B_w25
    clear B_w25
    replace her := Lib.hid her
    go_wp2_with fail
    go_ret
    exact ⟨rfl, hb9.out⟩
end Go.Proofs.Ytajihgpkaklgiaa.RelP
