/-
  RelayBoth, by the contracts of relay's own functions.
-/
import Derived.Test.YtajihgpkaklgiaaRelT
namespace Go.Proofs.Ytajihgpkaklgiaa.RelP
open Go.RowKit Go.Sort Go.Proofs.Ytajihgpkaklgiaa.SliceP Go.Proofs.Ytajihgpkaklgiaa.BoxP
open Go.Proofs.Ytajihgpkaklgiaa.IntP (RowI SlI OwnI)
open Go.Proofs.Ytajihgpkaklgiaa.LruP (hasI without ref_has_is ref_without_any)
set_option linter.unusedVariables false
set_option maxRecDepth 100000
theorem OwnP.put {w : World} {B n c : Nat} {A : Option Addr} {l : List St} (h : OwnP w B (.slice A n c) l) {j : Nat} (hj : j < l.length) (x : St) :
    ∃ g, A = some ⟨g, 0, none⟩ ∧ B ≤ g ∧ g < w.heap.size ∧ n = l.length ∧ n ≤ c ∧ (∀ i, w.frozen? ⟨g, i, none⟩ = false) ∧ w.cell? ⟨g, j * 2, none⟩ = some (.int .i64 (st l j).1) ∧ w.cell? ⟨g, j * 2 + 1, none⟩ = some (.int .i64 (st l j).2) ∧
      RowP ((w.setCell ⟨g, j * 2, none⟩ (.int .i64 x.1)).setCell ⟨g, j * 2 + 1, none⟩ (.int .i64 x.2)) (some ⟨g, 0, none⟩) l.length c (l.set j x) := by
  have hsl := Own.sl h (by decide)
  rcases h.row.2 with ⟨h1, h2⟩ | ⟨g, cap, cur, h1, hb, hg, hn, hm, hcs, htk⟩
  · rw [List.length_map] at h2; omega
  · injection h1 with e1 e2 e3
    subst e1 e2 e3
    rw [List.length_map] at hn
    have hsz : j * 2 + 2 ≤ cur.size := by rw [hcs]; have : (j + 1) * 2 ≤ c * 2 := Nat.mul_le_mul_right 2 (by omega); omega
    obtain ⟨b9, o9, e9, _, q0, q1⟩ := SlP.at_ hsl (st_at hj)
    obtain ⟨rfl, rfl⟩ : g = b9 ∧ 0 = o9 := by simpa using e9
    rw [Nat.zero_add] at q0 q1
    refine ⟨g, rfl, hb, (Array.getElem?_eq_some_iff.1 hg).1, List.length_map .., by rw [List.length_map]; exact hn, fun i => frozen_of_row w g _ _ _ hg, q0, q1, ⟨by rw [List.length_set], ?_, hn, fun e => by cases e⟩⟩
    intro _
    have hp := heap_setCell_same _ g (j * 2 + 1) _ _ (.int .i64 x.2) (heap_setCell_same w g (j * 2) _ _ (.int .i64 x.1) hg)
    refine ⟨g, 0, rfl, (Array.getElem?_eq_some_iff.1 hp).1, fun k cs hk i v hi => ?_⟩
    have hp' := cell_of_row _ g (0 + k * 2 + i) _ _ _ hp
    refine hp'.trans ?_
    clear hp hp'
    rw [List.getElem?_map, List.getElem?_set] at hk
    by_cases e : j = k
    · subst e
      rw [if_pos rfl, if_pos hj] at hk
      obtain rfl : sc x = cs := by simpa using hk
      have hi2 : i < 2 := (List.getElem?_eq_some_iff.1 hi).1
      rw [Nat.zero_add]
      have : i = 0 ∨ i = 1 := by omega
      rcases this with rfl | rfl
      · rw [Array.getElem?_setIfInBounds_ne (by omega), Nat.add_zero, Array.getElem?_setIfInBounds_self_of_lt (by omega)]; exact hi
      · rw [Array.getElem?_setIfInBounds_self_of_lt (by simp only [Array.size_setIfInBounds]; omega)]; exact hi
    · rw [if_neg e] at hk
      have hk' : (l.map sc)[k]? = some cs := by rw [List.getElem?_map]; exact hk
      have hi2 : i < 2 := by
        have := ((wholeP l) cs (List.mem_of_getElem? hk')).1
        have h9 := (List.getElem?_eq_some_iff.1 hi).1
        omega
      obtain ⟨b, o, e8, _, hx⟩ := Sl.at_ hsl hk'
      obtain ⟨rfl, rfl⟩ : g = b ∧ 0 = o := by simpa using e8
      have h8 := hx i v hi
      rw [cell_of_row _ _ _ _ _ _ hg] at h8
      rw [← h8, Array.getElem?_setIfInBounds_ne (by omega), Array.getElem?_setIfInBounds_ne (by omega)]
set_option maxHeartbeats 16000000 in
theorem both_law (C : RelC) {A : Option Addr} {n c : Nat} {l0 : List St} {w : World} (hr0 : RowP w A n c l0) (hc : c ≤ 9223372036854775807) (a b : Int) :
    Calls Try.prog 5 #[.slice A n c, .int .i64 a, .int .i64 b] w (True1 w) := by
  show Calls Try.prog 5 #[.slice A n c, .int .i64 a, .int .i64 b] w fun e w' => e = .returned (.bool true) ∧ Below w.heap.size w w'
  have hf := Lib.hid (few_any hr0 hc)
  obtain ⟨l, hl⟩ : ∃ l, l0.take 12 = l := ⟨_, rfl⟩
  have hr := hr0.few
  rw [hl] at hr hf
  have hlen : l.length ≤ 12 := by rw [← hl, List.length_take]; omega
  have hrH := Lib.hid hr
  have cA := Lib.hid fun W => alive_any C W
  clear hl hr0 hr
  obtain ⟨er, her⟩ : ∃ er, why l a = er := ⟨_, rfl⟩
  obtain ⟨es, hes⟩ : ∃ er, why l b = er := ⟨_, rfl⟩
  go_enter Try.func5, Try.ntmps5
  go_wp2_with fail
  go_at_call 6
  (with_reducible refine hf.out.mono ?_)
  rintro e w0 ⟨rfl, rfl⟩
  clear hf
  by_cases he0 : er = 0
  · subst he0
    obtain ⟨i1, i2, i3, i4, i5⟩ := why_zero her
    obtain ⟨i, rfl⟩ : ∃ k : Nat, a = k := ⟨a.toNat, by omega⟩
    have hi : i < l.length := by omega
    replace her := Lib.hid her
    replace i1 := Lib.hid i1
    clear i4 i5
    go_wp2_with fail
    go_at_call 7
    (with_reducible refine (C.flood_ok hrH.out hlen her.out).mono ?_)
    rintro e w51 ⟨A1, c1, rfl, r1, hb51⟩
    have L_w51 := Lib.hid (hrH.out.below hb51)
    have Q_w51 := Lib.hid (r1)
    clear hrH
    clear r1
    by_cases hs0 : es = 0
    · subst hs0
      obtain ⟨j1, j2, j3, j4, j5⟩ := why_zero hes
      obtain ⟨j, rfl⟩ : ∃ k : Nat, b = k := ⟨b.toNat, by omega⟩
      have hj : j < l.length := by omega
      replace hes := Lib.hid hes
      replace j1 := Lib.hid j1
      clear j4 j5
      go_wp2_with fail
      go_at_call 7
      (with_reducible refine (C.flood_ok L_w51.out hlen hes.out).mono ?_)
      rintro e w52 ⟨A2, c2, rfl, r2, hb52⟩
      have L_w52 := Lib.hid (L_w51.out.below hb52)
      have Q_w52 := Lib.hid (Q_w51.out.below hb52)
      have P_w52 := Lib.hid (r2)
      have B_w52 := bt hb51 hb52
      clear L_w51 Q_w51 hb51 hb52
      clear r2
      have hfl := flood_len l i
      have hfm := flood_len l j
      have hsy := has_flood hi hj
      obtain ⟨hh, hhh⟩ : ∃ h, hasI (flood l i) j = h := ⟨_, rfl⟩
      rw [hhh] at hsy
      have d0 : decide ((i : Int) < 0) = false := by simp
      have d1 : decide ((j : Int) < 0) = false := by simp
      have d2 : decide (l.length ≤ i) = false := by simp; omega
      have d3 : decide (l.length ≤ j) = false := by simp; omega
      have d4 : ¬ l.length ≤ i := by omega
      have d5 : ¬ l.length ≤ j := by omega
      obtain ⟨Q, hQ⟩ : ∃ Q, flood l i = Q := ⟨_, rfl⟩
      obtain ⟨P9, hP⟩ : ∃ Q, flood l j = Q := ⟨_, rfl⟩
      rw [hQ] at Q_w52 hfl hhh ⊢
      rw [hP] at P_w52 hfm hsy ⊢
      replace hQ := Lib.hid hQ
      replace hP := Lib.hid hP
      replace hfl := Lib.hid hfl
      replace hfm := Lib.hid hfm
      replace hhh := Lib.hid hhh
      replace hsy := Lib.hid hsy
      have cH1 := Lib.hid fun (W : World) (h : RowI W A1 Q.length c1 Q) => LruP.ref_has_is h (j : Int) hh hhh.out (by have := hfl.out; omega)
      have cH2 := Lib.hid fun (W : World) (h : RowI W A2 P9.length c2 P9) => LruP.ref_has_is h (i : Int) hh hsy.out.symm (by have := hfm.out; omega)
      go_wp2_with fail
      go_at_call 15
      (with_reducible refine (cH1.out _ Q_w52.out).mono ?_)
      rintro e w61 ⟨rfl, rfl⟩
      go_wp2_with fail
      go_at_call 15
      (with_reducible refine (cH2.out _ P_w52.out).mono ?_)
      rintro e w62 ⟨rfl, rfl⟩
      clear cH1 cH2
      cases hh
      all_goals
        go_wp2_with fail
        go_at_call 11
        (with_reducible refine (cA.out _).mono ?_)
        rintro e w93 ⟨rfl, hb93⟩
        have L_w93 := Lib.hid (L_w52.out.below hb93)
        have Q_w93 := Lib.hid (Q_w52.out.below hb93)
        have P_w93 := Lib.hid (P_w52.out.below hb93)
        have B_w93 := bt B_w52 hb93
        clear L_w52 Q_w52 P_w52 B_w52 hb93
        clear cA
        by_cases hij : i = j
        · subst hij
          have hse := flood_self l i
          rw [hQ.out] at hse
          have hq : ((i : Int) == (i : Int)) = true := by simp
          have cH := Lib.hid fun (W : World) (h : RowI W A1 Q.length c1 Q) => LruP.ref_has_is h (i : Int) false hse (by have := hfl.out; omega)
          replace hse := Lib.hid hse
          go_wp2_with fail
          go_at_call 15
          (with_reducible refine (cH.out _ Q_w93.out).mono ?_)
          rintro e w63 ⟨rfl, rfl⟩
          have hb9 := Lib.hid B_w93
          clear B_w93
          go_wp2_with fail
          go_ret
          exact ⟨rfl, hb9.out⟩
        · have hq : ((i : Int) == (j : Int)) = false := by simp; omega
          have hwl := Lib.hid (why_less her.out hj)
          have hfls := Lib.hid (flood_less (l := l) hij hj)
          replace hij := Lib.hid hij
          obtain ⟨w8, hw8⟩ : ∃ W, W = w93.alloc (.cells #[] 36) := ⟨_, rfl⟩
          have b8 : Below w93.heap.size w93 w8 := by rw [hw8]; exact (Below.refl _ _).alloc (Nat.le_refl _) _
          have own8 := Lib.hid (show OwnP w8 w93.heap.size (.slice (some ⟨w93.heap.size, 0, none⟩) 0 0) [] by rw [hw8]; exact own_lit0 w93 _ _ _ (Nat.le_refl _))
          have L8 := Lib.hid (L_w93.out.below b8)
          have Q8 := Lib.hid (Q_w93.out.below b8)
          have BB9 := B_w93
          have hb8 := Lib.hid (bt B_w93 b8)
          have hsz8 := Lib.hid b8.size
          have hn1 : Hid ((([] : List St).map sc).length + (l.map sc).length ≤ 1000000) := Lib.hid (by rw [List.length_map]; simp; omega)
          have hn2 : Hid (l.length = (l.map sc).length) := Lib.hid (by simp)
          have b8k := b8
          clear b8 B_w93
          go_wp2_with (at_builtin; rw [← hw8]; (refine wpList_append_sl rfl (.tmp 91) (.tmp 92) 22 rfl elP (by rfl) own8.out (by rfl) hn2.out L8.out.sl (wholeP l) L8.out.nil hn1.out hsz8.out ?_); intro v' w4 own1 grow1 _)
          clear hw8
          have own4 : OwnP w4 w93.heap.size v' l := by simpa using own1
          obtain ⟨A7, c7, hv7⟩ : ∃ A c, v' = .slice A l.length c := by
            obtain ⟨A, c, rfl, _⟩ := own4.form
            exact ⟨A, c, by rw [List.length_map]⟩
          subst hv7
          have b4 : Below w93.heap.size w93 w4 := (show Below w93.heap.size w93 w8 from ⟨b8k.os, b8k.tape, b8k.output, hsz8.out, b8k.block⟩).grown grow1 hsz8.out (fun j hj => (own8.out.lt j hj).1)
          obtain ⟨g, rfl, hg1, hg2, _, hcap, fz, s0, s1, rp⟩ := OwnP.put own4 hj (0, 0)
          obtain ⟨w5, hw5⟩ : ∃ W, W = (w4.setCell ⟨g, j * 2, none⟩ (.int .i64 0)).setCell ⟨g, j * 2 + 1, none⟩ (.int .i64 0) := ⟨_, rfl⟩
          have R5 := Lib.hid (show RowP w5 (some ⟨g, 0, none⟩) (l.set j (0, 0)).length c7 (l.set j (0, 0)) by rw [hw5, List.length_set]; exact rp)
          have B5' : Below w93.heap.size w93 w5 := by rw [hw5]; exact (b4.setCell hg1 _).setCell hg1 _
          have Q5 := Lib.hid (Q_w93.out.below B5')
          have L5 := Lib.hid (L_w93.out.below B5')
          have B5 := Lib.hid (bt BB9 B5')
          have hjl : (j : Int) < (l.length : Int) := by omega
          have f0 := fz (j * 2)
          have f1 := fz (j * 2 + 1)
          have cF := Lib.hid fun (W : World) (h : RowP W (some ⟨g, 0, none⟩) (l.set j (0, 0)).length c7 (l.set j (0, 0))) => C.flood_ok h (by rw [List.length_set]; exact hlen) hwl.out
          rw [List.length_set] at R5 cF
          rw [hfls.out, hQ.out] at cF
          have hwl2 := LruP.without_length Q (j : Int)
          have cW := Lib.hid fun (W : World) (h : RowI W A1 Q.length c1 Q) => LruP.ref_without_any h (j : Int) (by have := hfl.out; omega)
          obtain ⟨N9, hN⟩ : ∃ N, without Q (j : Int) = N := ⟨_, rfl⟩
          rw [hN] at cF cW hwl2
          replace hN := Lib.hid hN
          replace hwl2 := Lib.hid hwl2
          clear rp own1 own4 grow1 b4 fz B5' b8k BB9
          go_upto_region 12 with fail
          rw [← hw5]
          clear hw5 s0 s1 f0 f1 hg1 hg2
          go_wp2_with fail
          go_at_call 7
          (with_reducible refine (cF.out _ R5.out).mono ?_)
          rintro e w6 ⟨A6, c6, rfl, r6, hb6⟩
          have Q6 := Lib.hid (Q5.out.below hb6)
          have B6 := Lib.hid (bt B5.out hb6)
          replace r6 := Lib.hid r6
          clear hb6 R5 cF
          go_wp2_with fail
          go_at_call 16
          (with_reducible refine (cW.out _ Q6.out).mono ?_)
          rintro e w7 ⟨A8, c8, rfl, o8, hb7⟩
          have r7 := Lib.hid (r6.out.below hb7)
          have B7 := Lib.hid (bt B6.out hb7)
          have hsm := Lib.hid (LruP.same_true r7.out (IntP.own_row o8) rfl (by have := hwl2.out; have := hfl.out; omega))
          clear o8 hb7 cW
          go_wp2_with fail
          go_at_call 12
          (with_reducible refine hsm.out.mono ?_)
          rintro e w10 ⟨rfl, hb10⟩
          have B10 := Lib.hid (bt B7.out hb10)
          clear hb10
          go_wp2_with fail
          go_ret
          exact ⟨rfl, B10.out⟩
    · have hne : (es != 0) = true := by simpa using hs0
      replace hs0 := Lib.hid hs0
      go_wp2_with fail
      go_at_call 7
      (with_reducible refine (C.flood_no L_w51.out hlen hes hs0.out).mono ?_)
      rintro e w252 ⟨A2, c2, rfl, hb252⟩
      have L_w252 := Lib.hid (L_w51.out.below hb252)
      have Q_w252 := Lib.hid (Q_w51.out.below hb252)
      have B_w252 := bt hb51 hb252
      clear L_w51 Q_w51 hb51 hb252
      replace hes := Lib.hid hes
      clear Q_w252
      obtain ⟨n9, hn9⟩ : ∃ n, (flood l i).length = n := ⟨_, rfl⟩
      rw [hn9]
      replace hn9 := Lib.hid hn9
      go_wp2_with fail
      go_at_call 11
      (with_reducible refine (cA.out _).mono ?_)
      rintro e w253 ⟨rfl, hb253⟩
      have L_w253 := Lib.hid (L_w252.out.below hb253)
      have B_w253 := bt B_w252 hb253
      clear L_w252 B_w252 hb253
      have hb9 := Lib.hid B_w253
      clear B_w253
      by_cases hq : n9 = 0
      · subst hq
        go_wp2_with fail
        go_ret
        exact ⟨rfl, hb9.out⟩
      · have hq' : ((n9 : Int) == 0) = false := by simp; omega
        have hq2 : (n9 == 0) = false := by simpa using hq
        replace hq := Lib.hid hq
        go_wp2_with fail
        go_ret
        exact ⟨rfl, hb9.out⟩
  · have hne : (er != 0) = true := by simpa using he0
    replace he0 := Lib.hid he0
    go_wp2_with fail
    go_at_call 7
    (with_reducible refine (C.flood_no hrH.out hlen her he0.out).mono ?_)
    rintro e w21 ⟨A1, c1, rfl, hb21⟩
    have L_w21 := Lib.hid (hrH.out.below hb21)
    clear hrH
    replace her := Lib.hid her
    by_cases hs0 : es = 0
    · subst hs0
      obtain ⟨j1, j2, j3, j4, j5⟩ := why_zero hes
      obtain ⟨j, rfl⟩ : ∃ k : Nat, b = k := ⟨b.toNat, by omega⟩
      have hj : j < l.length := by omega
      replace hes := Lib.hid hes
      replace j1 := Lib.hid j1
      clear j4 j5
      go_wp2_with fail
      go_at_call 7
      (with_reducible refine (C.flood_ok L_w21.out hlen hes.out).mono ?_)
      rintro e w22 ⟨A2, c2, rfl, r2, hb22⟩
      have L_w22 := Lib.hid (L_w21.out.below hb22)
      have B_w22 := bt hb21 hb22
      clear L_w21 hb21 hb22
      clear r2
      obtain ⟨n9, hn9⟩ : ∃ n, (flood l j).length = n := ⟨_, rfl⟩
      rw [hn9]
      replace hn9 := Lib.hid hn9
      go_wp2_with fail
      go_at_call 11
      (with_reducible refine (cA.out _).mono ?_)
      rintro e w23 ⟨rfl, hb23⟩
      have L_w23 := Lib.hid (L_w22.out.below hb23)
      have B_w23 := bt B_w22 hb23
      clear L_w22 B_w22 hb23
      have hb9 := Lib.hid B_w23
      clear B_w23
      by_cases hq : n9 = 0
      · subst hq
        go_wp2_with fail
        go_ret
        exact ⟨rfl, hb9.out⟩
      · have hq' : ((n9 : Int) == 0) = false := by simp; omega
        have hq2 : (n9 == 0) = false := by simpa using hq
        replace hq := Lib.hid hq
        go_wp2_with fail
        go_ret
        exact ⟨rfl, hb9.out⟩
    · replace hs0 := Lib.hid hs0
      go_wp2_with fail
      go_at_call 7
      (with_reducible refine (C.flood_no L_w21.out hlen hes hs0.out).mono ?_)
      rintro e w122 ⟨A2, c2, rfl, hb122⟩
      have L_w122 := Lib.hid (L_w21.out.below hb122)
      have B_w122 := bt hb21 hb122
      clear L_w21 hb21 hb122
      replace hes := Lib.hid hes
      go_wp2_with fail
      go_at_call 11
      (with_reducible refine (cA.out _).mono ?_)
      rintro e w123 ⟨rfl, hb123⟩
      have L_w123 := Lib.hid (L_w122.out.below hb123)
      have B_w123 := bt B_w122 hb123
      clear L_w122 B_w122 hb123
      have hb9 := Lib.hid B_w123
      clear B_w123
      go_wp2_with fail
      go_ret
      exact ⟨rfl, hb9.out⟩
end Go.Proofs.Ytajihgpkaklgiaa.RelP
