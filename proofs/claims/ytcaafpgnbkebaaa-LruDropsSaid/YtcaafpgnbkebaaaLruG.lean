/-
  LruDrops whole.
-/
import Derived.Test.YtcaafpgnbkebaaaLruF
namespace Go.Proofs.Ytcaafpgnbkebaaa.LruP
open Go.RowKit Go.Sort Go.Proofs.Ytcaafpgnbkebaaa.SliceP Go.Proofs.Ytcaafpgnbkebaaa.IntP
set_option linter.unusedVariables false
set_option maxRecDepth 100000

set_option maxHeartbeats 4000000 in
theorem drops_law (v : Value) (x0 : Int) {w : World} (h : InI w v) (_h0 : (Lit.int .i64 x0).wf = true) :
    Calls Try.prog 6 #[v, .int .i64 x0] w (True1 w) := by
  have H := Lib.hid h
  clear h
  go_enter Try.func6, Try.ntmps6
  go_wp2_with fail
  go_at_call 7
  (with_reducible refine (few_in H.out).mono ?_)
  rintro e w' ⟨A, n, c, l, rfl, hR, hl, rfl⟩
  obtain rfl := hR.len
  have R := Lib.hid hR
  clear hR
  go_wp2_with fail
  obtain ⟨x1, x2⟩ := cut_bd x0 100 (by omega) (by omega)
  generalize wrap64 ((IntKind.u64.wrap x0).tmod 100) = x at *
  have hl1 : l.length ≤ 1000 := by omega
  by_cases hok : rightI l = true ∧ hasI l x = true
  · obtain ⟨hr, hh⟩ := hok
    have hwl := without_len hr hh
    have hra := right_without hr x
    have hlen := (right_iff.1 hr).1
    have E1 := dropE_ok hr x1 hh
    have E3 := useE_ok hr x1 (show (without l x).length ≠ 64 by omega)
    have hni := notin_without l x
    unfold useL at E3
    obtain ⟨a, ha⟩ : ∃ a, without l x = a := ⟨_, rfl⟩
    rw [ha] at E1 E3 hra hwl hni
    have hwa := without_same hni
    have E2 := useE_ok hra x1 (show (without a x).length ≠ 64 by rw [hwa]; omega)
    unfold useL at E2
    rw [hwa] at E2
    have hrb := right_cons hra x1 hni (by omega)
    have E4 := dropE_ok (x := x) hrb x1 (has_true.2 (by simp))
    rw [without_cons hni] at E4
    have E5 := dropE_no hra x1 (has_false.2 hni)
    have hb1 : (x :: a).length = l.length := by rw [List.length_cons]; omega
    have hb0 : (x :: a)[0]? = some x := rfl
    obtain ⟨b, hb⟩ : ∃ b, x :: a = b := ⟨_, rfl⟩
    rw [hb] at E2 E3 E4 hb1 hb0
    have hal : a.length ≤ 1000 := by omega
    have hbl : b.length ≤ 1000 := by omega
    have eb := eq_len hb1
    have hbp : (0 : Int) < (b.length : Int) := by omega
    have ebx : (x == x) = true := by simp
    replace E1 := Lib.hid E1
    replace E2 := Lib.hid E2
    replace E3 := Lib.hid E3
    replace E4 := Lib.hid E4
    replace E5 := Lib.hid E5
    replace hra := Lib.hid hra
    replace hrb := Lib.hid hrb
    replace hwa := Lib.hid hwa
    replace hni := Lib.hid hni
    replace hb0 := Lib.hid hb0
    replace hb := Lib.hid hb
    replace ha := Lib.hid ha
    replace hr := Lib.hid hr
    replace hh := Lib.hid hh
    replace eb := Lib.hid eb
    replace hb1 := Lib.hid hb1
    replace hwl := Lib.hid hwl
    replace ebx := Lib.hid ebx
    clear hlen
    go_at_call 10
    (with_reducible refine (drop_is R.out hl1 x _ _ E1.out).mono ?_)
    rintro e w1 ⟨A1, c1, rfl, o1, hb1⟩
    have R_w1 := Lib.hid (R.out.below hb1)
    have Ra_w1 := Lib.hid (own_row o1)
    clear R
    clear o1
    go_wp2_with fail
    go_at_call 8
    (with_reducible refine (use_is Ra_w1.out hal x _ _ E2.out).mono ?_)
    rintro e w2 ⟨A2, c2, rfl, o2, hb2⟩
    have R_w2 := Lib.hid (R_w1.out.below hb2)
    have Ra_w2 := Lib.hid (Ra_w1.out.below hb2)
    have Rb_w2 := Lib.hid (own_row o2)
    have B_w2 := bt hb1 hb2
    clear R_w1 Ra_w1 hb1 hb2
    clear o2
    go_wp2_with fail
    go_at_call 8
    (with_reducible refine (use_is R_w2.out hl1 x _ _ E3.out).mono ?_)
    rintro e w3 ⟨A3, c3, rfl, o3, hb3⟩
    have R_w3 := Lib.hid (R_w2.out.below hb3)
    have Ra_w3 := Lib.hid (Ra_w2.out.below hb3)
    have Rb_w3 := Lib.hid (Rb_w2.out.below hb3)
    have Rc_w3 := Lib.hid (own_row o3)
    have B_w3 := bt B_w2 hb3
    clear R_w2 Ra_w2 Rb_w2 B_w2 hb3
    clear o3
    clear R_w3
    go_wp2_with fail
    go_at_call 10
    (with_reducible refine (drop_is Rb_w3.out hbl x _ _ E4.out).mono ?_)
    rintro e w4 ⟨A4, c4, rfl, o4, hb4⟩
    have Ra_w4 := Lib.hid (Ra_w3.out.below hb4)
    have Rb_w4 := Lib.hid (Rb_w3.out.below hb4)
    have Rc_w4 := Lib.hid (Rc_w3.out.below hb4)
    have Rd_w4 := Lib.hid (own_row o4)
    have B_w4 := bt B_w3 hb4
    clear Ra_w3 Rb_w3 Rc_w3 B_w3 hb4
    clear o4
    go_wp2_with fail
    go_at_call 10
    (with_reducible refine (drop_is Rd_w4.out hal x _ _ E5.out).mono ?_)
    rintro e w5 ⟨A5, c5, rfl, _, hb5⟩
    have Ra_w5 := Lib.hid (Ra_w4.out.below hb5)
    have Rb_w5 := Lib.hid (Rb_w4.out.below hb5)
    have Rc_w5 := Lib.hid (Rc_w4.out.below hb5)
    have Rd_w5 := Lib.hid (Rd_w4.out.below hb5)
    have B_w5 := bt B_w4 hb5
    clear Ra_w4 Rb_w4 Rc_w4 Rd_w4 B_w4 hb5
    go_wp2_with fail
    go_at_call 14
    (with_reducible refine (alive_any _).mono ?_)
    rintro e w6 ⟨rfl, hb6⟩
    have Ra_w6 := Lib.hid (Ra_w5.out.below hb6)
    have Rb_w6 := Lib.hid (Rb_w5.out.below hb6)
    have Rc_w6 := Lib.hid (Rc_w5.out.below hb6)
    have Rd_w6 := Lib.hid (Rd_w5.out.below hb6)
    have B_w6 := bt B_w5 hb6
    clear Ra_w5 Rb_w5 Rc_w5 Rd_w5 B_w5 hb6
    go_wp2_with fail
    go_at_call 15
    (with_reducible refine (same_true Rb_w6.out Rc_w6.out rfl hbl).mono ?_)
    rintro e w7 ⟨rfl, hb7⟩
    have Ra_w7 := Lib.hid (Ra_w6.out.below hb7)
    have Rb_w7 := Lib.hid (Rb_w6.out.below hb7)
    have Rc_w7 := Lib.hid (Rc_w6.out.below hb7)
    have Rd_w7 := Lib.hid (Rd_w6.out.below hb7)
    have B_w7 := bt B_w6 hb7
    clear Ra_w6 Rb_w6 Rc_w6 Rd_w6 B_w6 hb7
    clear Rc_w7
    go_wp2_with fail
    go_at_call 15
    (with_reducible refine (same_true Rd_w7.out Ra_w7.out rfl hal).mono ?_)
    rintro e w8 ⟨rfl, hb8⟩
    have Ra_w8 := Lib.hid (Ra_w7.out.below hb8)
    have Rb_w8 := Lib.hid (Rb_w7.out.below hb8)
    have Rd_w8 := Lib.hid (Rd_w7.out.below hb8)
    have B_w8 := bt B_w7 hb8
    clear Ra_w7 Rb_w7 Rd_w7 B_w7 hb8
    clear Rd_w8
    clear Ra_w8
    replace eb := eb.out
    replace ebx := ebx.out
    obtain ⟨bb, ob, rfl, hbw, q0⟩ := SlI.at_ Rb_w8.out.sl hb0.out
    rw [Nat.add_zero] at q0
    go_wp2_with fail
    go_ret
    exact ⟨rfl, B_w8⟩
  · have E1 : ∃ e, (dropE l x = e ∧ dropA l x = []) ∧ (e = 1 ∨ e = 4) := by
      cases hr : rightI l
      · exact ⟨1, dropE_bad hr, .inl rfl⟩
      · cases hh : hasI l x
        · exact ⟨4, dropE_no hr x1 hh, .inr rfl⟩
        · exact absurd ⟨hr, hh⟩ hok
    obtain ⟨e, E1, he⟩ := E1
    replace E1 := Lib.hid E1
    replace hok := Lib.hid hok
    rcases he with rfl | rfl
    · go_at_call 10
      (with_reducible refine (drop_is R.out hl1 x _ _ E1.out).mono ?_)
      rintro e w1 ⟨A1, c1, rfl, _, hb1⟩
      go_wp2_with fail
      go_at_call 14
      (with_reducible refine (alive_any _).mono ?_)
      rintro e w2 ⟨rfl, hb2⟩
      have B_w2 := bt hb1 hb2
      clear hb1 hb2
      go_wp2_with fail
      go_ret
      exact ⟨rfl, B_w2⟩
    · go_at_call 10
      (with_reducible refine (drop_is R.out hl1 x _ _ E1.out).mono ?_)
      rintro e w1 ⟨A1, c1, rfl, _, hb1⟩
      go_wp2_with fail
      go_at_call 14
      (with_reducible refine (alive_any _).mono ?_)
      rintro e w2 ⟨rfl, hb2⟩
      have B_w2 := bt hb1 hb2
      clear hb1 hb2
      go_wp2_with fail
      go_ret
      exact ⟨rfl, B_w2⟩
end Go.Proofs.Ytcaafpgnbkebaaa.LruP
