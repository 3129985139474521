/-
  LruTrims whole.
-/
import Derived.Test.YtcaafpgnbkebaaaLruF
namespace Go.Proofs.Ytcaafpgnbkebaaa.LruP
open Go.RowKit Go.Sort Go.Proofs.Ytcaafpgnbkebaaa.SliceP Go.Proofs.Ytcaafpgnbkebaaa.IntP
set_option linter.unusedVariables false
set_option maxRecDepth 100000

theorem take_min (l : List Int) (k : Nat) : l.take (min k l.length) = l.take k := by
  by_cases h : k ≤ l.length
  · rw [Nat.min_eq_left h]
  · rw [Nat.min_eq_right (by omega), List.take_length, List.take_of_length_le (by omega)]
theorem drop_min (l : List Int) (k : Nat) : l.drop (min k l.length) = l.drop k := by
  by_cases h : k ≤ l.length
  · rw [Nat.min_eq_left h]
  · rw [Nat.min_eq_right (by omega), List.drop_length, List.drop_of_length_le (by omega)]
theorem trimE_ok' {l : List Int} {m : Nat} (h : rightI l = true) : trimE l m = 0 ∧ trimK l m = l.take m ∧ trimG l m = (l.drop m).reverse := by
  have := trimE_ok (m := m) h
  rwa [take_min, drop_min] at this
theorem gone_two (l : List Int) (m k : Nat) : (l.drop (m + k)).reverse ++ ((l.take (m + k)).drop m).reverse = (l.drop m).reverse := by
  rw [← List.reverse_append]
  congr 1
  have e : l.drop m = (l.take (m + k)).drop m ++ l.drop (m + k) := by
    by_cases h : m + k ≤ l.length
    · conv => lhs; rw [← List.take_append_drop (m + k) l]
      rw [List.drop_append_of_le_length (by rw [List.length_take]; omega)]
    · rw [List.take_of_length_le (by omega), List.drop_of_length_le (i := m + k) (by omega), List.append_nil]
  exact e.symm

set_option maxHeartbeats 8000000 in
theorem trims_law (v : Value) (m0 k0 : Int) {w : World} (h : InI w v) (_h0 : (Lit.int .i64 m0).wf = true) (_h1 : (Lit.int .i64 k0).wf = true) :
    Calls Try.prog 5 #[v, .int .i64 m0, .int .i64 k0] w (True1 w) := by
  have H := Lib.hid h
  clear h
  go_enter Try.func5, Try.ntmps5
  go_wp2_with fail
  go_at_call 7
  (with_reducible refine (few_in H.out).mono ?_)
  rintro e w' ⟨A, n, c, l, rfl, hR, hl, rfl⟩
  obtain rfl := hR.len
  have R := Lib.hid hR
  clear hR
  obtain ⟨x1, x2⟩ := cut_bd m0 80 (by omega) (by omega)
  obtain ⟨y1, y2⟩ := cut_bd k0 80 (by omega) (by omega)
  go_wp2_with fail
  generalize wrap64 ((IntKind.u64.wrap m0).tmod 80) = M at *
  generalize wrap64 ((IntKind.u64.wrap k0).tmod 80) = N at *
  obtain ⟨m, rfl⟩ : ∃ m : Nat, M = (m : Int) := ⟨M.toNat, by omega⟩
  obtain ⟨k, rfl⟩ : ∃ k : Nat, N = (k : Int) := ⟨N.toNat, by omega⟩
  have hl1 : l.length ≤ 1000 := by omega
  have hmk : (m : Int) + (k : Int) ≤ 9223372036854775807 := by omega
  have hm9 : (m : Int) ≤ 9223372036854775807 := by omega
  cases hr : rightI l
  · have E1 := trimE_bad (m := (m : Int) + (k : Int)) hr
    replace E1 := Lib.hid E1
    replace hr := Lib.hid hr
    go_at_call 11
    (with_reducible refine (trim_is R.out hl1 _ hmk _ _ _ E1.out).mono ?_)
    rintro e w1 ⟨A1, c1, A2, c2, rfl, _, _, hb1⟩
    go_wp2_with fail
    go_at_call 14
    (with_reducible refine (alive_any _).mono ?_)
    rintro e w2 ⟨rfl, hb2⟩
    have B_w2 := bt hb1 hb2
    clear hb1 hb2
    go_wp2_with fail
    go_ret
    exact ⟨rfl, B_w2⟩
  · have E1 : trimE l ((m : Int) + (k : Int)) = 0 ∧ trimK l ((m : Int) + (k : Int)) = l.take (m + k) ∧ trimG l ((m : Int) + (k : Int)) = (l.drop (m + k)).reverse := by
      have := trimE_ok' (m := m + k) hr
      rwa [Int.natCast_add] at this
    have E2 := trimE_ok' (m := m) (right_sub hr (List.take_sublist (m + k) l))
    rw [List.take_take, Nat.min_eq_left (by omega)] at E2
    have E3 := trimE_ok' (m := m) hr
    have hrb := right_sub hr (List.take_sublist m l)
    have hgm := gone_two l m k
    have hbm : (l.take m).length ≤ m := by rw [List.length_take]; omega
    have h1 : (l.take (m + k)).length ≤ 1000 := by rw [List.length_take]; omega
    have h2 : (l.take m).length ≤ 1000 := by rw [List.length_take]; omega
    have h3 : (l.drop m).reverse.length ≤ 1000 := by rw [List.length_reverse, List.length_drop]; omega
    have h4 : (l.drop (m + k)).reverse.length ≤ 1000 := by rw [List.length_reverse, List.length_drop]; omega
    have h5 : ((l.take (m + k)).drop m).reverse.length ≤ 1000 := by rw [List.length_reverse, List.length_drop, List.length_take]; omega
    obtain ⟨x, er, HX, hal⟩ : ∃ x er : Int, ((l = [] ∧ x = 0 ∧ er = 4) ∨ (l[l.length - 1]? = some x ∧ er = 0)) ∧ ((l.drop m).reverse = [] ∨ (er = 0 ∧ (l.drop m).reverse[0]? = some x)) := by
      by_cases hl0 : l = []
      · subst hl0; exact ⟨0, 4, .inl ⟨rfl, rfl, rfl⟩, .inl (by simp)⟩
      · have hp := List.length_pos_iff.2 hl0
        refine ⟨l[l.length - 1]'(by omega), 0, .inr ⟨List.getElem?_eq_getElem _, rfl⟩, ?_⟩
        by_cases hm : m < l.length
        · right
          refine ⟨rfl, ?_⟩
          rw [List.getElem?_reverse (by rw [List.length_drop]; omega), List.getElem?_drop, List.length_drop]
          rw [← List.getElem?_eq_getElem]
          congr 1; omega
        · left
          rw [List.drop_of_length_le (by omega)]; rfl
    obtain ⟨a, ha⟩ : ∃ a, l.take (m + k) = a := ⟨_, rfl⟩
    obtain ⟨b, hb⟩ : ∃ b, l.take m = b := ⟨_, rfl⟩
    obtain ⟨g, hg⟩ : ∃ g, (l.drop (m + k)).reverse = g := ⟨_, rfl⟩
    rw [ha] at E1 E2 hgm h1 h5
    rw [hb] at E2 E3 hrb hbm h2
    rw [hg] at E1 hgm h4
    obtain ⟨mo, hmo⟩ : ∃ mo, (a.drop m).reverse = mo := ⟨_, rfl⟩
    obtain ⟨al, hall⟩ : ∃ al, (l.drop m).reverse = al := ⟨_, rfl⟩
    rw [hmo] at E2 hgm h5
    rw [hall] at E3 hgm h3 hal
    have hbm' : (b.length : Int) ≤ (m : Int) := by omega
    have hn1 : (cI []).length + (cI g).length ≤ 1000000 := by rw [cI_length, cI_length]; simp only [List.length_nil]; omega
    have hn2 : (cI g).length + (cI mo).length ≤ 1000000 := by rw [cI_length, cI_length]; omega
    have hng : g.length = (cI g).length := (cI_length _).symm
    have hnm : mo.length = (cI mo).length := (cI_length _).symm
    replace E1 := Lib.hid E1
    replace E2 := Lib.hid E2
    replace E3 := Lib.hid E3
    replace hrb := Lib.hid hrb
    replace hgm := Lib.hid hgm
    replace HX := Lib.hid HX
    replace hal := Lib.hid hal
    replace ha := Lib.hid ha
    replace hb := Lib.hid hb
    replace hg := Lib.hid hg
    replace hmo := Lib.hid hmo
    replace hall := Lib.hid hall
    replace hr := Lib.hid hr
    replace hn1 := Lib.hid hn1
    replace hn2 := Lib.hid hn2
    replace hng := Lib.hid hng
    replace hnm := Lib.hid hnm
    replace hbm := Lib.hid hbm
    go_at_call 11
    (with_reducible refine (trim_is R.out hl1 _ hmk _ _ _ E1.out).mono ?_)
    rintro e w1 ⟨A1, c1, A2, c2, rfl, o1, o2, hb1⟩
    have R_w1 := Lib.hid (R.out.below hb1)
    have Ra_w1 := Lib.hid (own_row o1)
    have Rg_w1 := Lib.hid (own_row o2)
    clear R
    clear o1 o2
    go_wp2_with fail
    go_at_call 11
    (with_reducible refine (trim_is Ra_w1.out h1 _ hm9 _ _ _ E2.out).mono ?_)
    rintro e w2 ⟨A3, c3, A4, c4, rfl, o3, o4, hb2⟩
    have R_w2 := Lib.hid (R_w1.out.below hb2)
    have Ra_w2 := Lib.hid (Ra_w1.out.below hb2)
    have Rg_w2 := Lib.hid (Rg_w1.out.below hb2)
    have Rb_w2 := Lib.hid (own_row o3)
    have Rm_w2 := Lib.hid (own_row o4)
    have B_w2 := bt hb1 hb2
    clear R_w1 Ra_w1 Rg_w1 hb1 hb2
    clear o3 o4
    clear Ra_w2
    go_wp2_with fail
    go_at_call 11
    (with_reducible refine (trim_is R_w2.out hl1 _ hm9 _ _ _ E3.out).mono ?_)
    rintro e w3 ⟨A5, c5, A6, c6, rfl, o5, o6, hb3⟩
    have R_w3 := Lib.hid (R_w2.out.below hb3)
    have Rg_w3 := Lib.hid (Rg_w2.out.below hb3)
    have Rb_w3 := Lib.hid (Rb_w2.out.below hb3)
    have Rm_w3 := Lib.hid (Rm_w2.out.below hb3)
    have Rc_w3 := Lib.hid (own_row o5)
    have Rl_w3 := Lib.hid (own_row o6)
    have B_w3 := bt B_w2 hb3
    clear R_w2 Rg_w2 Rb_w2 Rm_w2 B_w2 hb3
    clear o5 o6
    go_wp2_with fail
    go_at_call 9
    (with_reducible refine (oldest_good R_w3.out hl1 hr.out x er HX.out).mono ?_)
    rintro e w4 ⟨rfl, hb4⟩
    have R_w4 := Lib.hid (R_w3.out.below hb4)
    have Rg_w4 := Lib.hid (Rg_w3.out.below hb4)
    have Rb_w4 := Lib.hid (Rb_w3.out.below hb4)
    have Rm_w4 := Lib.hid (Rm_w3.out.below hb4)
    have Rc_w4 := Lib.hid (Rc_w3.out.below hb4)
    have Rl_w4 := Lib.hid (Rl_w3.out.below hb4)
    have B_w4 := bt B_w3 hb4
    clear R_w3 Rg_w3 Rb_w3 Rm_w3 Rc_w3 Rl_w3 B_w3 hb4
    clear R_w4
    go_wp2_with fail
    go_at_call 15
    (with_reducible refine (same_true Rb_w4.out Rc_w4.out rfl h2).mono ?_)
    rintro e w5 ⟨rfl, hb5⟩
    have Rg_w5 := Lib.hid (Rg_w4.out.below hb5)
    have Rb_w5 := Lib.hid (Rb_w4.out.below hb5)
    have Rm_w5 := Lib.hid (Rm_w4.out.below hb5)
    have Rc_w5 := Lib.hid (Rc_w4.out.below hb5)
    have Rl_w5 := Lib.hid (Rl_w4.out.below hb5)
    have B_w5 := bt B_w4 hb5
    clear Rg_w4 Rb_w4 Rm_w4 Rc_w4 Rl_w4 B_w4 hb5
    clear Rc_w5
    have O0 := Lib.hid (own_lit w5 #[] [] w5.heap.size 0 (Nat.le_refl _) rfl rfl (by simp))
    have Q0 : Below w5.heap.size w5 (w5.alloc (.cells #[] 3)) := (Below.refl _ _).alloc (Nat.le_refl _) _
    have G0 := Lib.hid (Rg_w5.out.below Q0)
    have hB1 : Hid (w5.heap.size ≤ (w5.alloc (.cells #[] 3)).heap.size) := Lib.hid Q0.size
    go_wp2_with (at_builtin; (first | (refine wpList_append_sl_g (by rfl) (.tmp 81) (.tmp 82) 22 rfl elI (by rfl) O0.out (by rfl) hng.out G0.out.sl (IntP.whole _) G0.out.nil hn1.out hB1.out ?_; intro v1 wA own1 grow1 _; have Q1 : Below w5.heap.size w5 wA := Q0.grown grow1 Q0.size (fun k hk => (O0.out.lt k hk).1); rw [← cI_append, List.nil_append] at own1; replace own1 := Lib.hid own1; have M1 := Lib.hid (Rm_w5.out.below Q1); have hB2 := Lib.hid Q1.size) | (refine wpList_append_sl_g (by rfl) (.tmp 83) (.tmp 84) 22 rfl elI (by rfl) own1.out (by rfl) hnm.out M1.out.sl (IntP.whole _) M1.out.nil hn2.out hB2.out ?_; intro v2 wB own2 grow2 _; have Q2 : Below w5.heap.size w5 wB := Q1.grown grow2 Q1.size (fun k hk => (own1.out.lt k hk).1); rw [← cI_append, hgm.out] at own2; obtain ⟨A9, c9, rfl⟩ := OwnI.form' own2; replace own2 := Lib.hid own2)))
    clear O0 own1 G0 M1 Q0 Q1 hB1 hB2 grow1 grow2
    clear Rg_w5
    clear Rm_w5
    have Rb_wB := Lib.hid (Rb_w5.out.below Q2)
    have Rl_wB := Lib.hid (Rl_w5.out.below Q2)
    have Rx_wB := Lib.hid (own_row own2.out)
    have B_wB := bt B_w5 Q2
    clear Rb_w5 Rl_w5 B_w5 Q2
    clear own2
    go_at_call 15
    (with_reducible refine (same_true Rx_wB.out Rl_wB.out rfl h3).mono ?_)
    rintro e w6 ⟨rfl, hb6⟩
    have Rb_w6 := Lib.hid (Rb_wB.out.below hb6)
    have Rl_w6 := Lib.hid (Rl_wB.out.below hb6)
    have Rx_w6 := Lib.hid (Rx_wB.out.below hb6)
    have B_w6 := bt B_wB hb6
    clear Rb_wB Rl_wB Rx_wB B_wB hb6
    clear Rx_w6
    go_wp2_with fail
    go_at_call 13
    (with_reducible refine (right_is Rb_w6.out h2 _ hrb.out).mono ?_)
    rintro e w7 ⟨rfl, rfl⟩
    clear Rb_w6
    go_wp2_with fail
    go_at_call 14
    (with_reducible refine (alive_any _).mono ?_)
    rintro e w7 ⟨rfl, hb7⟩
    have Rl_w7 := Lib.hid (Rl_w6.out.below hb7)
    have B_w7 := bt B_w6 hb7
    clear Rl_w6 B_w6 hb7
    rcases hal.out with hz | ⟨he, h0⟩
    · have hz' : ((al.length : Int) == 0) = true := by rw [hz]; rfl
      clear hz
      go_wp2_with fail
      go_ret
      exact ⟨rfl, B_w7⟩
    · have hz' : ((al.length : Int) == 0) = false := by
        have := (List.getElem?_eq_some_iff.1 h0).1
        rw [beq_eq_false_iff_ne]; omega
      have hap : (0 : Int) < (al.length : Int) := by
        have := (List.getElem?_eq_some_iff.1 h0).1
        omega
      have hxx : (x == x) = true := by simp
      subst he
      obtain ⟨bb, ob, rfl, hbw, q0⟩ := SlI.at_ Rl_w7.out.sl h0
      rw [Nat.add_zero] at q0
      clear h0
      go_wp2_with fail
      go_ret
      exact ⟨rfl, B_w7⟩
end Go.Proofs.Ytcaafpgnbkebaaa.LruP
