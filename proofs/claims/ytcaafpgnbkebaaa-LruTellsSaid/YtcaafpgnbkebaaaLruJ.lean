/-
  LruTells whole.
-/
import Derived.Test.YtcaafpgnbkebaaaLruH
import Derived.Deep.CutRange
namespace Go.Proofs.Ytcaafpgnbkebaaa.LruP
open Go.RowKit Go.Sort Go.Proofs.Ytcaafpgnbkebaaa.SliceP Go.Proofs.Ytcaafpgnbkebaaa.IntP
set_option linter.unusedVariables false
set_option maxRecDepth 100000

theorem zero_row {l : List Int} (h : l = []) : ((l.length : Int) == 0) = true := by subst h; rfl
theorem pos_row {l : List Int} (h : l ≠ []) : ((l.length : Int) == 0) = false := by
  have := List.length_pos_iff.2 h
  rw [beq_eq_false_iff_ne]; omega
theorem old_case (l : List Int) : ∃ x er : Int, ((l = [] ∧ x = 0 ∧ er = 4) ∨ (l[l.length - 1]? = some x ∧ er = 0)) := by
  by_cases h : l = []
  · exact ⟨0, 4, .inl ⟨h, rfl, rfl⟩⟩
  · have := List.length_pos_iff.2 h
    exact ⟨l[l.length - 1]'(by omega), 0, .inr ⟨List.getElem?_eq_getElem _, rfl⟩⟩
theorem drop_row {a : Addr} {c : Nat} {l : List Int} {w : World} (h : RowI w (some a) l.length c l) (k : Nat) (hk : k ≤ l.length) : RowI w (some (a.add k)) (l.length - k) (c - k) (l.drop k) := by
  refine ⟨by rw [List.length_drop], ?_, by have := h.cap; omega, fun h => by cases h⟩
  intro hn
  have hl : cI l ≠ [] := by
    rintro e
    apply hn
    rw [← cI_drop, e]; exact List.drop_nil
  obtain ⟨b, o, e, _, _⟩ := h.sl hl
  injection e with e
  subst e
  have := SlI.drop h.sl k hn
  unfold Addr.add
  by_cases hz : k = 0
  · subst hz; simpa using this
  · rw [if_neg hz]; exact this
theorem end_row {A : Option Addr} {n c : Nat} {l : List Int} {w : World} (hn : n = 0) (hl : l = []) (hA : A = none → c = 0) : RowI w A n c l := by
  subst hn; subst hl; exact ⟨rfl, Sl.nil, Nat.zero_le _, hA⟩
def SpareI (x : Int) : Prop := x ≤ 9223372036854775807
theorem wf_le {x : Int} (h : (Lit.int .i64 x).wf = true) : x ≤ 9223372036854775807 := by
  simp only [Lit.wf, Bool.and_eq_true, decide_eq_true_eq] at h
  exact h.2

set_option maxHeartbeats 8000000 in
theorem tells_law (v : Value) (x m0 : Int) {w : World} (h : InI w v) (_h0 : (Lit.int .i64 x).wf = true) (hm0 : (Lit.int .i64 m0).wf = true) :
    Calls Try.prog 3 #[v, .int .i64 x, .int .i64 m0] w (True1 w) := by
  have H := Lib.hid h
  have hm9 := wf_le hm0
  clear h hm0 _h0
  go_enter Try.func3, Try.ntmps3
  go_wp2_with fail
  go_at_call 7
  (with_reducible refine (few_in H.out).mono ?_)
  rintro e w' ⟨A, n, c, l, rfl, hR, hl, rfl⟩
  obtain rfl := hR.len
  have R := Lib.hid hR
  have hcap := hR.cap
  have hnil := Lib.hid hR.nil
  clear hR
  have hl1 : l.length ≤ 1000 := by omega
  cases hr : rightI l
  · have E1 := Lib.hid (useE_bad (x := x) hr)
    have E3 := Lib.hid (dropE_bad (x := x) hr)
    have E4 := Lib.hid (trimE_bad (m := m0) hr)
    replace hr := Lib.hid hr
    clear hcap
    go_wp2_with fail
    go_at_call 8
    (with_reducible refine (use_is R.out hl1 x _ _ E1.out).mono ?_)
    rintro e w1 ⟨A1, c1, rfl, _, hb1⟩
    have R_w1 := Lib.hid (R.out.below hb1)
    clear R
    go_wp2_with fail
    go_at_call 9
    (with_reducible refine (oldest_bad R_w1.out hl1 hr.out).mono ?_)
    rintro e w2 ⟨rfl, hb2⟩
    have R_w2 := Lib.hid (R_w1.out.below hb2)
    have B_w2 := bt hb1 hb2
    clear R_w1 hb1 hb2
    go_wp2_with fail
    go_at_call 10
    (with_reducible refine (drop_is R_w2.out hl1 x _ _ E3.out).mono ?_)
    rintro e w3 ⟨A3, c3, rfl, _, hb3⟩
    have R_w3 := Lib.hid (R_w2.out.below hb3)
    have B_w3 := bt B_w2 hb3
    clear R_w2 B_w2 hb3
    go_wp2_with fail
    go_at_call 11
    (with_reducible refine (trim_is R_w3.out hl1 _ hm9 _ _ _ E4.out).mono ?_)
    rintro e w4 ⟨A4, c4, A5, c5, rfl, _, _, hb4⟩
    have R_w4 := Lib.hid (R_w3.out.below hb4)
    have B_w4 := bt B_w3 hb4
    clear R_w3 B_w3 hb4
    go_wp2_with fail
    go_at_call 12
    (with_reducible refine (ref_right_is R_w4.out hl1 _ hr.out).mono ?_)
    rintro e w' ⟨rfl, rfl⟩
    go_wp2_with fail
    go_at_call 13
    (with_reducible refine (right_is R_w4.out hl1 _ hr.out).mono ?_)
    rintro e w' ⟨rfl, rfl⟩
    clear R_w4
    go_wp2_with fail
    go_at_call 14
    (with_reducible refine (alive_any _).mono ?_)
    rintro e w5 ⟨rfl, hb5⟩
    have B_w5 := bt B_w4 hb5
    clear B_w4 hb5
    go_wp2_with fail
    go_ret
    exact ⟨rfl, B_w5⟩
  obtain ⟨xo, er, HX⟩ := old_case l
  obtain ⟨e, a, E1⟩ : ∃ e a, useE l x = e ∧ useA l x = a := ⟨_, _, rfl, rfl⟩
  obtain ⟨g, b, E3⟩ : ∃ e a, dropE l x = e ∧ dropA l x = a := ⟨_, _, rfl, rfl⟩
  obtain ⟨hh, cc, d, E4⟩ : ∃ e a b, trimE l m0 = e ∧ trimK l m0 = a ∧ trimG l m0 = b := ⟨_, _, _, rfl, rfl, rfl⟩
  replace E1 := Lib.hid E1
  replace E3 := Lib.hid E3
  replace E4 := Lib.hid E4
  replace HX := Lib.hid HX
  replace hr := Lib.hid hr
  go_wp2_with fail
  go_at_call 8
  (with_reducible refine (use_is R.out hl1 x _ _ E1.out).mono ?_)
  rintro e w1 ⟨A1, c1, rfl, o1, hb1⟩
  have R_w1 := Lib.hid (R.out.below hb1)
  have Ra_w1 := Lib.hid (own_row o1)
  clear R
  clear o1
  go_wp2_with fail
  go_at_call 9
  (with_reducible refine (oldest_good R_w1.out hl1 hr.out _ _ HX.out).mono ?_)
  rintro e w2 ⟨rfl, hb2⟩
  have R_w2 := Lib.hid (R_w1.out.below hb2)
  have Ra_w2 := Lib.hid (Ra_w1.out.below hb2)
  have B_w2 := bt hb1 hb2
  clear R_w1 Ra_w1 hb1 hb2
  go_wp2_with fail
  go_at_call 10
  (with_reducible refine (drop_is R_w2.out hl1 x _ _ E3.out).mono ?_)
  rintro e w3 ⟨A3, c3, rfl, o3, hb3⟩
  have R_w3 := Lib.hid (R_w2.out.below hb3)
  have Ra_w3 := Lib.hid (Ra_w2.out.below hb3)
  have Rb_w3 := Lib.hid (own_row o3)
  have B_w3 := bt B_w2 hb3
  clear R_w2 Ra_w2 B_w2 hb3
  clear o3
  go_wp2_with fail
  go_at_call 11
  (with_reducible refine (trim_is R_w3.out hl1 _ hm9 _ _ _ E4.out).mono ?_)
  rintro e w4 ⟨A4, c4, A5, c5, rfl, o4, o5, hb4⟩
  have R_w4 := Lib.hid (R_w3.out.below hb4)
  have Ra_w4 := Lib.hid (Ra_w3.out.below hb4)
  have Rb_w4 := Lib.hid (Rb_w3.out.below hb4)
  have Rc_w4 := Lib.hid (own_row o4)
  have Rd_w4 := Lib.hid (own_row o5)
  have B_w4 := bt B_w3 hb4
  clear R_w3 Ra_w3 Rb_w3 B_w3 hb4
  clear o4 o5
  go_wp2_with fail
  go_at_call 12
  (with_reducible refine (ref_right_is R_w4.out hl1 _ hr.out).mono ?_)
  rintro e w' ⟨rfl, rfl⟩
  go_wp2_with fail
  go_at_call 13
  (with_reducible refine (right_is R_w4.out hl1 _ hr.out).mono ?_)
  rintro e w' ⟨rfl, rfl⟩
  go_wp2_with fail
  go_at_call 14
  (with_reducible refine (alive_any _).mono ?_)
  rintro e w5 ⟨rfl, hb5⟩
  have R_w5 := Lib.hid (R_w4.out.below hb5)
  have Ra_w5 := Lib.hid (Ra_w4.out.below hb5)
  have Rb_w5 := Lib.hid (Rb_w4.out.below hb5)
  have Rc_w5 := Lib.hid (Rc_w4.out.below hb5)
  have Rd_w5 := Lib.hid (Rd_w4.out.below hb5)
  have B_w5 := bt B_w4 hb5
  clear R_w4 Ra_w4 Rb_w4 Rc_w4 Rd_w4 B_w4 hb5
  go_upto_if 97 with fail
  go_cut [6] from 97 (fun s6 wx => s6 = .bool false ∧ w5 = wx)
  case first =>
    by_cases hl0 : l = []
    · have hz := zero_row hl0
      obtain ⟨rfl, rfl⟩ : xo = 0 ∧ er = 4 := by
        rcases HX.out with ⟨_, h1, h2⟩ | ⟨h1, _⟩
        · exact ⟨h1, h2⟩
        · subst hl0; simp at h1
      clear hl0
      go_wp2_with fail
      go_meet
      exact ⟨rfl, rfl⟩
    · have hz := pos_row hl0
      obtain ⟨hx1, rfl⟩ : l[l.length - 1]? = some xo ∧ er = 0 := by
        rcases HX.out with ⟨h0, _⟩ | h1
        · exact absurd h0 hl0
        · exact h1
      have hp := List.length_pos_iff.2 hl0
      obtain ⟨bb, ob, rfl, hbw, q0⟩ := SlI.at_ R_w5.out.sl hx1
      have hp1 : (1 : Int) ≤ (l.length : Int) := by omega
      have hp2 : (0 : Int) ≤ (l.length : Int) - 1 := by omega
      have hp3 : ((l.length : Int) - 1).toNat = l.length - 1 := by omega
      have hxx : (xo != xo) = false := by simp
      clear hl0 hx1 hp
      go_wp2_with fail
      go_meet
      exact ⟨rfl, rfl⟩
  case rest =>
    obtain ⟨rfl, rfl⟩ := hcut
    go_upto_if 117 with fail
    go_cut [6, 17] from 117 (fun s6 _ wx => s6 = .bool false ∧ Below w5.heap.size w5 wx)
    case first =>
      by_cases hm : m0 < 0
      · obtain ⟨e1, e2, e3⟩ := trimE_neg (l := l) hm
        obtain ⟨rfl, rfl, rfl⟩ : hh = 1 ∧ cc = [] ∧ d = [] := ⟨by rw [← E4.out.1, e1], by rw [← E4.out.2.1, e2], by rw [← E4.out.2.2, e3]⟩
        clear e1 e2 e3
        go_wp2_with fail
        go_meet
        exact ⟨rfl, Below.refl _ _⟩
      · obtain ⟨m, rfl⟩ : ∃ m : Nat, m0 = (m : Int) := ⟨m0.toNat, by omega⟩
        clear hm
        obtain ⟨e1, e2, e3⟩ := trimE_ok' (m := m) hr.out
        obtain rfl : hh = 0 := by rw [← E4.out.1, e1]
        have hcc : cc = l.take m := by rw [← E4.out.2.1, e2]
        have hdd : (l.drop m).reverse = d := by rw [← E4.out.2.2, e3]
        have hccl : cc.length ≤ 1000 := by rw [hcc, List.length_take]; omega
        have hddl : d.length ≤ 1000 := by rw [← hdd, List.length_reverse, List.length_drop]; omega
        clear e1 e2 e3
        by_cases hml : m ≤ l.length
        · have hm1 : (m : Int) ≤ (l.length : Int) := by omega
          have hm2 : (0 : Int) ≤ (m : Int) := by omega
          have hmc : (m : Int) ≤ (c : Int) := by omega
          rcases A with _ | ad
          · obtain rfl : c = 0 := hnil.out rfl
            obtain rfl : l = [] := List.length_eq_zero_iff.1 (by omega)
            obtain rfl : m = 0 := by simpa using hml
            clear hm1 hm2 hmc hml
            have T0 := Lib.hid (RowI.empty w5)
            have D0 := Lib.hid (RowI.empty w5)
            have hce := Lib.hid (show cc = [] by simpa using hcc)
            have hde := Lib.hid (show ([] : List Int).reverse = d by simpa using hdd)
            have hdl : Hid (([] : List Int).length ≤ 1000) := Lib.hid (by first | omega | (simp; done) | (rw [List.length_drop]; omega))
            clear hcc hdd
            go_wp2_with fail
            go_at_call 15
            (with_reducible refine (same_true Rc_w5.out T0.out hce.out hccl).mono ?_)
            rintro e w6 ⟨rfl, hb6⟩
            have Rc_w6 := Lib.hid (Rc_w5.out.below hb6)
            have Rd_w6 := Lib.hid (Rd_w5.out.below hb6)
            have T0_w6 := Lib.hid (T0.out.below hb6)
            have D0_w6 := Lib.hid (D0.out.below hb6)
            clear Rc_w5 Rd_w5 T0 D0
            clear T0_w6
            clear Rc_w6
            go_wp2_with fail
            go_at_call 16
            (with_reducible refine (ref_back_any D0_w6.out hdl.out).mono ?_)
            rw [hde.out]
            rintro e w7 ⟨A7, c7, rfl, o7, hb7⟩
            have Rd_w7 := Lib.hid (Rd_w6.out.below hb7)
            have D0_w7 := Lib.hid (D0_w6.out.below hb7)
            have Rk_w7 := Lib.hid (own_row o7)
            have B_w7 := bt hb6 hb7
            clear Rd_w6 D0_w6 hb6 hb7
            clear o7
            clear D0_w7
            go_wp2_with fail
            go_at_call 15
            (with_reducible refine (same_true Rd_w7.out Rk_w7.out rfl hddl).mono ?_)
            rintro e w8 ⟨rfl, hb8⟩
            have Rd_w8 := Lib.hid (Rd_w7.out.below hb8)
            have Rk_w8 := Lib.hid (Rk_w7.out.below hb8)
            have B_w8 := bt B_w7 hb8
            clear Rd_w7 Rk_w7 B_w7 hb8
            go_wp2_with fail
            go_meet
            exact ⟨rfl, B_w8⟩
          · by_cases hcm : c = m
            · obtain rfl := hcm
              have hlm : l.length - c = 0 := by omega
              replace hlm := Lib.hid hlm
              have T0 := Lib.hid (R_w5.out.take c hml)
              have D0 := Lib.hid ((end_row rfl (List.drop_of_length_le (by have := hlm.out; omega)) (fun h => by cases h) : RowI w5 (some ad) 0 0 (l.drop c)))
              have hce := Lib.hid (hcc)
              have hde := Lib.hid (hdd)
              have hdl : Hid ((l.drop c).length ≤ 1000) := Lib.hid (by first | omega | (simp; done) | (rw [List.length_drop]; omega))
              clear hcc hdd
              go_wp2_with fail
              go_at_call 15
              (with_reducible refine (same_true Rc_w5.out T0.out hce.out hccl).mono ?_)
              rintro e w6 ⟨rfl, hb6⟩
              have Rc_w6 := Lib.hid (Rc_w5.out.below hb6)
              have Rd_w6 := Lib.hid (Rd_w5.out.below hb6)
              have T0_w6 := Lib.hid (T0.out.below hb6)
              have D0_w6 := Lib.hid (D0.out.below hb6)
              clear Rc_w5 Rd_w5 T0 D0
              clear T0_w6
              clear Rc_w6
              go_wp2_with fail
              go_at_call 16
              (with_reducible refine (ref_back_any D0_w6.out hdl.out).mono ?_)
              rw [hde.out]
              rintro e w7 ⟨A7, c7, rfl, o7, hb7⟩
              have Rd_w7 := Lib.hid (Rd_w6.out.below hb7)
              have D0_w7 := Lib.hid (D0_w6.out.below hb7)
              have Rk_w7 := Lib.hid (own_row o7)
              have B_w7 := bt hb6 hb7
              clear Rd_w6 D0_w6 hb6 hb7
              clear o7
              clear D0_w7
              go_wp2_with fail
              go_at_call 15
              (with_reducible refine (same_true Rd_w7.out Rk_w7.out rfl hddl).mono ?_)
              rintro e w8 ⟨rfl, hb8⟩
              have Rd_w8 := Lib.hid (Rd_w7.out.below hb8)
              have Rk_w8 := Lib.hid (Rk_w7.out.below hb8)
              have B_w8 := bt B_w7 hb8
              clear Rd_w7 Rk_w7 B_w7 hb8
              go_wp2_with fail
              go_meet
              exact ⟨rfl, B_w8⟩
            · skip
              have T0 := Lib.hid (R_w5.out.take m hml)
              have D0 := Lib.hid (drop_row R_w5.out m hml)
              have hce := Lib.hid (hcc)
              have hde := Lib.hid (hdd)
              have hdl : Hid ((l.drop m).length ≤ 1000) := Lib.hid (by first | omega | (simp; done) | (rw [List.length_drop]; omega))
              clear hcc hdd
              go_wp2_with fail
              go_at_call 15
              (with_reducible refine (same_true Rc_w5.out T0.out hce.out hccl).mono ?_)
              rintro e w6 ⟨rfl, hb6⟩
              have Rc_w6 := Lib.hid (Rc_w5.out.below hb6)
              have Rd_w6 := Lib.hid (Rd_w5.out.below hb6)
              have T0_w6 := Lib.hid (T0.out.below hb6)
              have D0_w6 := Lib.hid (D0.out.below hb6)
              clear Rc_w5 Rd_w5 T0 D0
              clear T0_w6
              clear Rc_w6
              go_wp2_with fail
              go_at_call 16
              (with_reducible refine (ref_back_any D0_w6.out hdl.out).mono ?_)
              rw [hde.out]
              rintro e w7 ⟨A7, c7, rfl, o7, hb7⟩
              have Rd_w7 := Lib.hid (Rd_w6.out.below hb7)
              have D0_w7 := Lib.hid (D0_w6.out.below hb7)
              have Rk_w7 := Lib.hid (own_row o7)
              have B_w7 := bt hb6 hb7
              clear Rd_w6 D0_w6 hb6 hb7
              clear o7
              clear D0_w7
              go_wp2_with fail
              go_at_call 15
              (with_reducible refine (same_true Rd_w7.out Rk_w7.out rfl hddl).mono ?_)
              rintro e w8 ⟨rfl, hb8⟩
              have Rd_w8 := Lib.hid (Rd_w7.out.below hb8)
              have Rk_w8 := Lib.hid (Rk_w7.out.below hb8)
              have B_w8 := bt B_w7 hb8
              clear Rd_w7 Rk_w7 B_w7 hb8
              go_wp2_with fail
              go_meet
              exact ⟨rfl, B_w8⟩
        · have hm1 : (l.length : Int) < (m : Int) := by omega
          have hm2 : ¬ ((m : Int) ≤ (l.length : Int)) := by omega
          have hm3 : (l.length : Int) ≤ (c : Int) := by omega
          have hm4 : (0 : Int) ≤ (l.length : Int) := by omega
          rw [List.take_of_length_le (by omega)] at hcc
          rw [List.drop_of_length_le (by omega)] at hdd
          rcases A with _ | ad
          · obtain rfl : c = 0 := hnil.out rfl
            obtain rfl : l = [] := List.length_eq_zero_iff.1 (by omega)
            replace hm1 : (0 : Int) < (m : Int) := hm1
            replace hm2 : ¬ ((m : Int) ≤ 0) := hm2
            clear hm3 hm4 hml
            have T0 := Lib.hid (RowI.empty w5)
            have D0 := Lib.hid (RowI.empty w5)
            have hce := Lib.hid (hcc)
            have hde := Lib.hid (hdd)
            have hdl : Hid (([] : List Int).length ≤ 1000) := Lib.hid (by first | omega | (simp; done) | (rw [List.length_drop]; omega))
            clear hcc hdd
            go_wp2_with fail
            go_at_call 15
            (with_reducible refine (same_true Rc_w5.out T0.out hce.out hccl).mono ?_)
            rintro e w6 ⟨rfl, hb6⟩
            have Rc_w6 := Lib.hid (Rc_w5.out.below hb6)
            have Rd_w6 := Lib.hid (Rd_w5.out.below hb6)
            have T0_w6 := Lib.hid (T0.out.below hb6)
            have D0_w6 := Lib.hid (D0.out.below hb6)
            clear Rc_w5 Rd_w5 T0 D0
            clear T0_w6
            clear Rc_w6
            go_wp2_with fail
            go_at_call 16
            (with_reducible refine (ref_back_any D0_w6.out hdl.out).mono ?_)
            rw [hde.out]
            rintro e w7 ⟨A7, c7, rfl, o7, hb7⟩
            have Rd_w7 := Lib.hid (Rd_w6.out.below hb7)
            have D0_w7 := Lib.hid (D0_w6.out.below hb7)
            have Rk_w7 := Lib.hid (own_row o7)
            have B_w7 := bt hb6 hb7
            clear Rd_w6 D0_w6 hb6 hb7
            clear o7
            clear D0_w7
            go_wp2_with fail
            go_at_call 15
            (with_reducible refine (same_true Rd_w7.out Rk_w7.out rfl hddl).mono ?_)
            rintro e w8 ⟨rfl, hb8⟩
            have Rd_w8 := Lib.hid (Rd_w7.out.below hb8)
            have Rk_w8 := Lib.hid (Rk_w7.out.below hb8)
            have B_w8 := bt B_w7 hb8
            clear Rd_w7 Rk_w7 B_w7 hb8
            go_wp2_with fail
            go_meet
            exact ⟨rfl, B_w8⟩
          · by_cases hcm : c = l.length
            · subst hcm
              have T0 := Lib.hid (R_w5.out)
              have D0 := Lib.hid ((end_row rfl rfl (fun h => by cases h) : RowI w5 (some ad) 0 0 []))
              have hce := Lib.hid (hcc)
              have hde := Lib.hid (hdd)
              have hdl : Hid (([] : List Int).length ≤ 1000) := Lib.hid (by first | omega | (simp; done) | (rw [List.length_drop]; omega))
              clear hcc hdd
              go_wp2_with fail
              go_at_call 15
              (with_reducible refine (same_true Rc_w5.out T0.out hce.out hccl).mono ?_)
              rintro e w6 ⟨rfl, hb6⟩
              have Rc_w6 := Lib.hid (Rc_w5.out.below hb6)
              have Rd_w6 := Lib.hid (Rd_w5.out.below hb6)
              have T0_w6 := Lib.hid (T0.out.below hb6)
              have D0_w6 := Lib.hid (D0.out.below hb6)
              clear Rc_w5 Rd_w5 T0 D0
              clear T0_w6
              clear Rc_w6
              go_wp2_with fail
              go_at_call 16
              (with_reducible refine (ref_back_any D0_w6.out hdl.out).mono ?_)
              rw [hde.out]
              rintro e w7 ⟨A7, c7, rfl, o7, hb7⟩
              have Rd_w7 := Lib.hid (Rd_w6.out.below hb7)
              have D0_w7 := Lib.hid (D0_w6.out.below hb7)
              have Rk_w7 := Lib.hid (own_row o7)
              have B_w7 := bt hb6 hb7
              clear Rd_w6 D0_w6 hb6 hb7
              clear o7
              clear D0_w7
              go_wp2_with fail
              go_at_call 15
              (with_reducible refine (same_true Rd_w7.out Rk_w7.out rfl hddl).mono ?_)
              rintro e w8 ⟨rfl, hb8⟩
              have Rd_w8 := Lib.hid (Rd_w7.out.below hb8)
              have Rk_w8 := Lib.hid (Rk_w7.out.below hb8)
              have B_w8 := bt B_w7 hb8
              clear Rd_w7 Rk_w7 B_w7 hb8
              go_wp2_with fail
              go_meet
              exact ⟨rfl, B_w8⟩
            · skip
              have T0 := Lib.hid (R_w5.out)
              have D0 := Lib.hid ((end_row rfl rfl (fun h => by cases h) : RowI w5 (some (ad.add l.length)) 0 (c - l.length) []))
              have hce := Lib.hid (hcc)
              have hde := Lib.hid (hdd)
              have hdl : Hid (([] : List Int).length ≤ 1000) := Lib.hid (by first | omega | (simp; done) | (rw [List.length_drop]; omega))
              clear hcc hdd
              go_wp2_with fail
              go_at_call 15
              (with_reducible refine (same_true Rc_w5.out T0.out hce.out hccl).mono ?_)
              rintro e w6 ⟨rfl, hb6⟩
              have Rc_w6 := Lib.hid (Rc_w5.out.below hb6)
              have Rd_w6 := Lib.hid (Rd_w5.out.below hb6)
              have T0_w6 := Lib.hid (T0.out.below hb6)
              have D0_w6 := Lib.hid (D0.out.below hb6)
              clear Rc_w5 Rd_w5 T0 D0
              clear T0_w6
              clear Rc_w6
              go_wp2_with fail
              go_at_call 16
              (with_reducible refine (ref_back_any D0_w6.out hdl.out).mono ?_)
              rw [hde.out]
              rintro e w7 ⟨A7, c7, rfl, o7, hb7⟩
              have Rd_w7 := Lib.hid (Rd_w6.out.below hb7)
              have D0_w7 := Lib.hid (D0_w6.out.below hb7)
              have Rk_w7 := Lib.hid (own_row o7)
              have B_w7 := bt hb6 hb7
              clear Rd_w6 D0_w6 hb6 hb7
              clear o7
              clear D0_w7
              go_wp2_with fail
              go_at_call 15
              (with_reducible refine (same_true Rd_w7.out Rk_w7.out rfl hddl).mono ?_)
              rintro e w8 ⟨rfl, hb8⟩
              have Rd_w8 := Lib.hid (Rd_w7.out.below hb8)
              have Rk_w8 := Lib.hid (Rk_w7.out.below hb8)
              have B_w8 := bt B_w7 hb8
              clear Rd_w7 Rk_w7 B_w7 hb8
              go_wp2_with fail
              go_meet
              exact ⟨rfl, B_w8⟩
    case rest =>
      obtain ⟨rfl, hb5⟩ := hcut
      have R_wc := Lib.hid (R_w5.out.below hb5)
      have Ra_wc := Lib.hid (Ra_w5.out.below hb5)
      have Rb_wc := Lib.hid (Rb_w5.out.below hb5)
      have Rc_wc := Lib.hid (Rc_w5.out.below hb5)
      have Rd_wc := Lib.hid (Rd_w5.out.below hb5)
      have B_wc := bt B_w5 hb5
      clear R_w5 Ra_w5 Rb_w5 Rc_w5 Rd_w5 B_w5 hb5
      clear Rc_wc
      clear Rd_wc
      have hlen := (right_iff.1 hr.out).1
      have hwl := without_length l x
      by_cases hx : x < 0
      · obtain ⟨e1, e2⟩ := useE_neg (l := l) hx
        obtain ⟨f1, f2⟩ := dropE_neg (l := l) hx
        obtain ⟨rfl, rfl⟩ : e = 1 ∧ a = [] := ⟨by rw [← E1.out.1, e1], by rw [← E1.out.2, e2]⟩
        obtain ⟨rfl, rfl⟩ : g = 1 ∧ b = [] := ⟨by rw [← E3.out.1, f1], by rw [← E3.out.2, f2]⟩
        clear e1 e2 f1 f2
        go_wp2_with fail
        go_ret
        exact ⟨rfl, B_wc⟩
      have hx0 : 0 ≤ x := by omega
      have hl6 : Hid (l.length ≤ 1000000) := Lib.hid (by omega)
      cases hh : hasI l x
      · have hws := without_same (has_false.1 hh)
        obtain ⟨f1, f2⟩ := dropE_no hr.out hx0 hh
        obtain ⟨rfl, rfl⟩ : g = 4 ∧ b = [] := ⟨by rw [← E3.out.1, f1], by rw [← E3.out.2, f2]⟩
        clear f1 f2
        replace hh := Lib.hid hh
        obtain ⟨wl, hwn⟩ : ∃ wl, useL l x = wl := ⟨_, rfl⟩
        have hwll : wl.length = l.length + 1 := by rw [← hwn, useL_length, hws]
        by_cases hf : l.length = 64
        clear Rb_wc
        · obtain ⟨e1, e2⟩ := useE_full hr.out hx0 (show (without l x).length = 64 by rw [hws]; exact hf)
          obtain ⟨rfl, rfl⟩ : e = 5 ∧ a = [] := ⟨by rw [← E1.out.1, e1], by rw [← E1.out.2, e2]⟩
          have h64 : (64 : Int) < (wl.length : Int) := by omega
          replace hwn := Lib.hid hwn
          replace hwll := Lib.hid hwll
          replace hf := Lib.hid hf
          replace hws := Lib.hid hws
          clear e1 e2
          clear Ra_wc
          go_wp2_with fail
          go_at_call 17
          (with_reducible refine (ref_has_is R_wc.out x _ hh.out hl6.out).mono ?_)
          rintro e w' ⟨rfl, rfl⟩
          go_wp2_with fail
          go_at_call 19
          (with_reducible refine (ref_use_any R_wc.out x hl1).mono ?_)
          rw [hwn.out]
          rintro e w6 ⟨A9, c9, rfl, o9, hb6⟩
          have R_w6 := Lib.hid (R_wc.out.below hb6)
          have Rx_w6 := Lib.hid (own_row o9)
          have B_w6 := bt B_wc hb6
          clear R_wc B_wc hb6
          clear o9
          clear R_w6
          go_wp2_with fail
          go_ret
          exact ⟨rfl, B_w6⟩
        · obtain ⟨e1, e2⟩ := useE_ok hr.out hx0 (show (without l x).length ≠ 64 by rw [hws]; exact hf)
          rw [hwn] at e2
          obtain ⟨rfl, rfl⟩ : e = 0 ∧ a = wl := ⟨by rw [← E1.out.1, e1], by rw [← E1.out.2, e2]⟩
          have h64 : (a.length : Int) ≤ 64 := by omega
          have hal : a.length ≤ 1000 := by omega
          replace hwn := Lib.hid hwn
          replace hwll := Lib.hid hwll
          replace hws := Lib.hid hws
          clear e1 e2
          go_wp2_with fail
          go_at_call 17
          (with_reducible refine (ref_has_is R_wc.out x _ hh.out hl6.out).mono ?_)
          rintro e w' ⟨rfl, rfl⟩
          go_wp2_with fail
          go_at_call 19
          (with_reducible refine (ref_use_any R_wc.out x hl1).mono ?_)
          rw [hwn.out]
          rintro e w6 ⟨A9, c9, rfl, o9, hb6⟩
          have R_w6 := Lib.hid (R_wc.out.below hb6)
          have Ra_w6 := Lib.hid (Ra_wc.out.below hb6)
          have Rx_w6 := Lib.hid (own_row o9)
          have B_w6 := bt B_wc hb6
          clear R_wc Ra_wc B_wc hb6
          clear o9
          clear R_w6
          go_wp2_with fail
          go_at_call 15
          (with_reducible refine (same_true Ra_w6.out Rx_w6.out rfl hal).mono ?_)
          rintro e w7 ⟨rfl, hb7⟩
          have Ra_w7 := Lib.hid (Ra_w6.out.below hb7)
          have Rx_w7 := Lib.hid (Rx_w6.out.below hb7)
          have B_w7 := bt B_w6 hb7
          clear Ra_w6 Rx_w6 B_w6 hb7
          go_wp2_with fail
          go_ret
          exact ⟨rfl, B_w7⟩
      · have hw1 := without_len hr.out hh
        obtain ⟨f1, f2⟩ := dropE_ok hr.out hx0 hh
        obtain ⟨e1, e2⟩ := useE_ok hr.out hx0 (show (without l x).length ≠ 64 by omega)
        obtain ⟨wl, hwn⟩ : ∃ wl, useL l x = wl := ⟨_, rfl⟩
        have hwll : wl.length = (without l x).length + 1 := by rw [← hwn, useL_length]
        rw [hwn] at e2
        obtain ⟨rfl, hbn⟩ : g = 0 ∧ without l x = b := ⟨by rw [← E3.out.1, f1], by rw [← E3.out.2, f2]⟩
        obtain ⟨rfl, rfl⟩ : e = 0 ∧ a = wl := ⟨by rw [← E1.out.1, e1], by rw [← E1.out.2, e2]⟩
        have h64 : (a.length : Int) ≤ 64 := by omega
        have hal : a.length ≤ 1000 := by omega
        have hbl : b.length ≤ 1000 := by rw [← hbn]; omega
        replace hwn := Lib.hid hwn
        replace hwll := Lib.hid hwll
        replace hbn := Lib.hid hbn
        replace hw1 := Lib.hid hw1
        replace hh := Lib.hid hh
        clear e1 e2 f1 f2
        go_wp2_with fail
        go_at_call 17
        (with_reducible refine (ref_has_is R_wc.out x _ hh.out hl6.out).mono ?_)
        rintro e w' ⟨rfl, rfl⟩
        go_wp2_with fail
        go_at_call 18
        (with_reducible refine (ref_without_any R_wc.out x hl1).mono ?_)
        rw [hbn.out]
        rintro e w6 ⟨A8, c8, rfl, o8, hb6⟩
        have R_w6 := Lib.hid (R_wc.out.below hb6)
        have Ra_w6 := Lib.hid (Ra_wc.out.below hb6)
        have Rb_w6 := Lib.hid (Rb_wc.out.below hb6)
        have Rw_w6 := Lib.hid (own_row o8)
        have B_w6 := bt B_wc hb6
        clear R_wc Ra_wc Rb_wc B_wc hb6
        clear o8
        go_wp2_with fail
        go_at_call 15
        (with_reducible refine (same_true Rb_w6.out Rw_w6.out rfl hbl).mono ?_)
        rintro e w7 ⟨rfl, hb7⟩
        have R_w7 := Lib.hid (R_w6.out.below hb7)
        have Ra_w7 := Lib.hid (Ra_w6.out.below hb7)
        have Rb_w7 := Lib.hid (Rb_w6.out.below hb7)
        have Rw_w7 := Lib.hid (Rw_w6.out.below hb7)
        have B_w7 := bt B_w6 hb7
        clear R_w6 Ra_w6 Rb_w6 Rw_w6 B_w6 hb7
        clear Rb_w7
        clear Rw_w7
        go_wp2_with fail
        go_at_call 19
        (with_reducible refine (ref_use_any R_w7.out x hl1).mono ?_)
        rw [hwn.out]
        rintro e w8 ⟨A9, c9, rfl, o9, hb8⟩
        have R_w8 := Lib.hid (R_w7.out.below hb8)
        have Ra_w8 := Lib.hid (Ra_w7.out.below hb8)
        have Rx_w8 := Lib.hid (own_row o9)
        have B_w8 := bt B_w7 hb8
        clear R_w7 Ra_w7 B_w7 hb8
        clear o9
        clear R_w8
        go_wp2_with fail
        go_at_call 15
        (with_reducible refine (same_true Ra_w8.out Rx_w8.out rfl hal).mono ?_)
        rintro e w9 ⟨rfl, hb9⟩
        have Ra_w9 := Lib.hid (Ra_w8.out.below hb9)
        have Rx_w9 := Lib.hid (Rx_w8.out.below hb9)
        have B_w9 := bt B_w8 hb9
        clear Ra_w8 Rx_w8 B_w8 hb9
        go_wp2_with fail
        go_ret
        exact ⟨rfl, B_w9⟩
end Go.Proofs.Ytcaafpgnbkebaaa.LruP
