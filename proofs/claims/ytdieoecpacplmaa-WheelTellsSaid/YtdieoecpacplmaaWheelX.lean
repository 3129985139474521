/-
  WheelArms whole.
-/
import Derived.Test.YtdieoecpacplmaaWheelV
namespace Go.Proofs.Ytdieoecpacplmaa.WheelP
open Go.RowKit Go.Sort Go.Proofs.Ytdieoecpacplmaa.SliceP Go.Proofs.Ytdieoecpacplmaa.MacP
set_option linter.unusedVariables false
set_option maxRecDepth 100000

theorem InT.alloc {w : World} {v : Value} (h : InT w v) (o : Obj) : InT (w.alloc o) v := by
  rcases h with rfl | ⟨a, L, cap, rfl, h1, h2, h3⟩
  · exact .inl rfl
  · exact .inr ⟨a, L, cap, rfl, h1, h2, Sl.alloc h3 o⟩
def cntI (l : List T) (id : Int) : Nat := (l.filter fun x => x.id == id).length
theorem cnt_yes {l : List T} {k : Nat} {x : T} {id : Int} (hx : l[k]? = some x) (h : (x.id == id) = true) : cntI (l.take (k + 1)) id = cntI (l.take k) id + 1 := by
  unfold cntI
  rw [List.take_add_one, hx, List.filter_append, List.length_append]; simp [h]
theorem cnt_no {l : List T} {k : Nat} {x : T} {id : Int} (hx : l[k]? = some x) (h : (x.id == id) = false) : cntI (l.take (k + 1)) id = cntI (l.take k) id := by
  unfold cntI
  rw [List.take_add_one, hx, List.filter_append, List.length_append]; simp [h]
theorem cnt_le (l : List T) (id : Int) (k : Nat) : cntI (l.take k) id ≤ k := by
  unfold cntI
  exact Nat.le_trans (List.length_filter_le _ _) (by rw [List.length_take]; omega)
theorem cnt_one {x : T} {o : List T} (hn : ∀ y ∈ o, y.id ≠ x.id) : cntI (leT (insT x o) x.due) x.id = 1 := by
  unfold cntI leT
  have hp := (((insT_perm x o).filter fun y => decide (y.due ≤ x.due)).filter fun y => y.id == x.id).length_eq
  rw [hp, List.filter_cons, if_pos (by simp), List.filter_cons, if_pos (by simp)]
  have e : ((o.filter fun y => decide (y.due ≤ x.due)).filter fun y => y.id == x.id) = [] := by
    rw [List.filter_eq_nil_iff]
    intro y hy
    have := hn y (List.mem_filter.1 hy).1
    simpa using this
  rw [e]; rfl
theorem insT_has {x : T} {o : List T} : hasI (insT x o) x.id = true := has_true.2 ⟨x, (insT_perm x o).symm.subset (by simp), rfl⟩

theorem few_box {v : Value} {w : World} (h : InT w v) (o : Obj) : Calls Try.prog 7 #[v] (w.alloc o) fun e w' => ∃ A n c l, e = .returned (.slice A n c) ∧ RowT w A n c l ∧ l.length ≤ 70 ∧ w.alloc o = w' := by
  rcases h with rfl | ⟨a, L, cap, rfl, hL, hc, hS⟩
  · exact (few_nil _).mono fun _ _ ⟨h1, h2⟩ => ⟨none, 0, 0, [], h1, ⟨rfl, Sl.nil, Nat.le_refl _, fun _ => rfl⟩, by simp, h2⟩
  · refine (few_any a L.length cap _ hL hc).mono fun _ _ ⟨h1, h2⟩ => ⟨some a, min L.length 70, cap, L.take 70, h1, ⟨by rw [List.length_take]; omega, SlT.take hS 70, by omega, fun h => by cases h⟩, by rw [List.length_take]; omega, h2⟩

set_option maxHeartbeats 16000000 in
theorem arms_law (v : Value) (i0 a0 at0 : Int) {w : World} (h : InT w v) (_h0 : (Lit.int .i64 i0).wf = true) (_h1 : (Lit.int .i64 a0).wf = true) (_h2 : (Lit.int .i64 at0).wf = true) :
    Calls Try.prog 5 #[v, tv i0 a0, .int .i64 at0] w (True1 w) := by
  have H := Lib.hid h
  clear h
  go_enter Try.func5, Try.ntmps5
  go_wp2_with fail
  go_at_call 7
  (with_reducible refine (few_box H.out _).mono ?_)
  rintro e w' ⟨A, n, c, l, rfl, hR, hl, rfl⟩
  replace hR := Lib.hid hR
  go_wp2_with fail
  obtain ⟨i0', i1'⟩ := cut_bd i0 1000 (by omega) (by omega)
  obtain ⟨a0', a1'⟩ := cut_bd a0 549755813888 (by omega) (by omega)
  obtain ⟨t0', t1'⟩ := cut_bd at0 549755813888 (by omega) (by omega)
  generalize wrap64 ((IntKind.u64.wrap i0).tmod 1000) = i at *
  generalize wrap64 ((IntKind.u64.wrap a0).tmod 549755813888) = a at *
  generalize wrap64 ((IntKind.u64.wrap at0).tmod 549755813888) = t at *
  have hxok := Lib.hid (show okB i a = true by unfold okB timeB; simp; omega)
  have htok := Lib.hid (show okB i t = true by unfold okB timeB; simp; omega)
  have htt := Lib.hid (show timeB t = true by unfold timeB; simp; omega)
  have B0 : Below w.heap.size w (w.alloc (tObj i a)) := (Below.refl _ _).alloc (Nat.le_refl _) _
  have R0 := Lib.hid (hR.out.below B0)
  have x0 : (w.alloc (tObj i a)).cell? ⟨w.heap.size, 0, none⟩ = some (.int .i64 i) := by go_simp
  have x1 : (w.alloc (tObj i a)).cell? ⟨w.heap.size, 1, none⟩ = some (.int .i64 a) := by go_simp
  have hz0 : w.heap.size < (w.alloc (tObj i a)).heap.size := by simp
  have hn := hR.out.len
  have hl1000 : l.length ≤ 1000 := by omega
  clear H hR _h0 _h1 _h2
  generalize w.alloc (tObj i a) = W at *
  obtain ⟨nb, hnb⟩ : ∃ nb, w.heap.size = nb := ⟨_, rfl⟩
  rw [hnb] at x0 x1 hz0 ⊢
  replace hnb := Lib.hid hnb
  have fin : ∀ w', Below W.heap.size W w' → Below w.heap.size w w' := fun w' hb => B0.trans (hb.mono B0.size)
  replace fin := Lib.hid fin
  clear B0
  cases hr : rightB l
  case false =>
    replace hr := Lib.hid hr
    clear hn
    go_at_call 8
    (with_reducible refine (arm_bad R0.out hl1000 i a hr.out).mono ?_)
    rintro e w1 ⟨A1, c1, rfl, o1, hb1⟩
    have R1 := Lib.hid (R0.out.below hb1)
    clear o1 x0 x1
    go_wp2_with fail
    go_at_call 14
    (with_reducible refine (alive_any _).mono ?_)
    rintro e w2 ⟨rfl, hb2⟩
    have B2 := bt hb1 hb2
    have R2 := Lib.hid (R1.out.below hb2)
    clear hb1 hb2
    go_wp2_with fail
    go_at_call 13
    (with_reducible refine (right_any R2.out hl1000 _ hr.out).mono ?_)
    rintro e w3 ⟨rfl, hb3⟩
    have B3 := bt B2 hb3
    clear hb3
    go_wp2_with fail
    go_ret
    exact ⟨rfl, fin.out _ B3⟩
  case true =>
    have hg := good_of_right hr
    by_cases hf : (without l i).length = 64
    · replace hr := Lib.hid hr
      replace hf := Lib.hid hf
      clear hn
      go_at_call 8
      (with_reducible refine (arm_full R0.out hl1000 i a hr.out hxok.out hf.out).mono ?_)
      rintro e w1 ⟨A1, c1, rfl, o1, hb1⟩
      clear o1 x0 x1
      go_wp2_with fail
      go_at_call 14
      (with_reducible refine (alive_any _).mono ?_)
      rintro e w2 ⟨rfl, hb2⟩
      have B2 := bt hb1 hb2
      clear hb1 hb2
      go_wp2_with fail
      go_ret
      exact ⟨rfl, fin.out _ B2⟩
    obtain ⟨o, ho⟩ : ∃ o, without l i = o := ⟨_, rfl⟩
    have hno : ∀ y ∈ o, y.id ≠ i := fun y hy => by rw [← ho] at hy; exact (without_mem.1 hy).2
    have hgo : Good o := by rw [← ho]; exact hg.sub (without_sub l i)
    have hol : o.length < 64 := by have := hgo.len; rw [ho] at hf; omega
    obtain ⟨a1, ha1⟩ : ∃ q, insT ⟨i, a⟩ o = q := ⟨_, rfl⟩
    obtain ⟨g1, hg1⟩ : ∃ q, insT ⟨i, t⟩ o = q := ⟨_, rfl⟩
    have hga : Good a1 := by rw [← ha1]; exact insT_good (x := ⟨i, a⟩) hgo hxok.out hno hol
    have hgg : Good g1 := by rw [← hg1]; exact insT_good (x := ⟨i, t⟩) hgo htok.out hno hol
    have hwa : without a1 i = o := by rw [← ha1]; exact without_insT (x := ⟨i, a⟩) hno
    have hha : hasI a1 i = true := by rw [← ha1]; exact insT_has (x := ⟨i, a⟩)
    have hcnt : cntI (leT g1 t) i = 1 := by rw [← hg1]; exact cnt_one (x := ⟨i, t⟩) hno
    have hfa : (without a1 i).length ≠ 64 := by rw [hwa]; omega
    have hfl : (without l i).length ≠ 64 := hf
    obtain ⟨D, hD⟩ : ∃ D, leT g1 t = D := ⟨_, rfl⟩
    rw [hD] at hcnt
    have hDl : D.length ≤ 64 := by rw [← hD]; exact Nat.le_trans (leT_sub g1 t).length_le hgg.len
    have hga1 : a1.length ≤ 1000 := by have := hga.len; omega
    have hgg1 : g1.length ≤ 1000 := by have := hgg.len; omega
    have ho1000 : o.length ≤ 1000 := by omega
    have hra := Lib.hid (right_of_good hga)
    have hsame : hasI l i = false → l = o := fun h => by rw [← ho]; exact (without_same h).symm
    replace hg := Lib.hid hg
    replace ho := Lib.hid ho
    replace ha1 := Lib.hid ha1
    replace hg1 := Lib.hid hg1
    replace hga := Lib.hid hga
    replace hgg := Lib.hid hgg
    replace hwa := Lib.hid hwa
    replace hha := Lib.hid hha
    replace hfa := Lib.hid hfa
    replace hfl := Lib.hid hfl
    replace hD := Lib.hid hD
    replace hr := Lib.hid hr
    replace hcnt := Lib.hid hcnt
    replace hno := Lib.hid hno
    replace hgo := Lib.hid hgo
    replace hsame := Lib.hid hsame
    clear hn hf
    go_at_call 8
    (with_reducible refine (arm_good R0.out i a hg.out hxok.out hfl.out).mono ?_)
    rw [ho.out, ha1.out]
    rintro e w1 ⟨A1, c1, rfl, o1, hb1⟩
    have y0 := (hb1.cell (p := ⟨nb, _, none⟩) hz0).trans x0
    have z1 : nb < w1.heap.size := Nat.lt_of_lt_of_le hz0 hb1.size
    have RA1 := Lib.hid (own_row o1)
    have RL1 := Lib.hid (R0.out.below hb1)
    clear o1 x0 x1 R0 hz0
    go_wp2_with fail
    go_at_call 8
    (with_reducible refine (arm_good RA1.out i t hga.out htok.out hfa.out).mono ?_)
    rw [hwa.out, hg1.out]
    rintro e w2 ⟨A2, c2, rfl, o2, hb2⟩
    have B2 := bt hb1 hb2
    have x0 := (hb2.cell (p := ⟨nb, _, none⟩) z1).trans y0
    have z2 : nb < w2.heap.size := Nat.lt_of_lt_of_le z1 hb2.size
    have RA2 := Lib.hid (RA1.out.below hb2)
    have RL2 := Lib.hid (RL1.out.below hb2)
    have RG2 := Lib.hid (own_row o2)
    clear o2 y0 z1 RA1 RL1 hb1 hb2
    go_wp2_with fail
    go_at_call 8
    (with_reducible refine (arm_good RL2.out i t hg.out htok.out hfl.out).mono ?_)
    rw [ho.out, hg1.out]
    rintro e w3 ⟨A3, c3, rfl, o3, hb3⟩
    have B3 := bt B2 hb3
    have y0 := (hb3.cell (p := ⟨nb, _, none⟩) z2).trans x0
    have z3 : nb < w3.heap.size := Nat.lt_of_lt_of_le z2 hb3.size
    have RA3 := Lib.hid (RA2.out.below hb3)
    have RL3 := Lib.hid (RL2.out.below hb3)
    have RG3 := Lib.hid (RG2.out.below hb3)
    have RO3 := Lib.hid (own_row o3)
    clear o3 x0 z2 RA2 RL2 RG2 hb3 B2
    go_wp2_with fail
    go_at_call 9
    (with_reducible refine (cancel_good RA3.out hga1 i hra.out i0' hha.out).mono ?_)
    rw [hwa.out]
    rintro e w4 ⟨A4, c4, rfl, o4, hb4⟩
    have B4 := bt B3 hb4
    have x0 := (hb4.cell (p := ⟨nb, _, none⟩) z3).trans y0
    have z4 : nb < w4.heap.size := Nat.lt_of_lt_of_le z3 hb4.size
    have RL4 := Lib.hid (RL3.out.below hb4)
    have RG4 := Lib.hid (RG3.out.below hb4)
    have RO4 := Lib.hid (RO3.out.below hb4)
    have RF4 := Lib.hid (own_row o4)
    clear o4 y0 z3 RA3 RL3 RG3 RO3 hb4 B3
    go_wp2_with fail
    go_at_call 17
    (with_reducible refine (same_true RG4.out RO4.out rfl hgg1).mono ?_)
    rintro e w5 ⟨rfl, hb5⟩
    have B5 := bt B4 hb5
    have y0 := (hb5.cell (p := ⟨nb, _, none⟩) z4).trans x0
    have z5 : nb < w5.heap.size := Nat.lt_of_lt_of_le z4 hb5.size
    have RL5 := Lib.hid (RL4.out.below hb5)
    have RG5 := Lib.hid (RG4.out.below hb5)
    have RF5 := Lib.hid (RF4.out.below hb5)
    clear x0 z4 RL4 RG4 RO4 RF4 hb5 B4
    go_wp2_with fail
    go_at_call 14
    (with_reducible refine (alive_any _).mono ?_)
    rintro e w6 ⟨rfl, hb6⟩
    have B6 := bt B5 hb6
    have x0 := (hb6.cell (p := ⟨nb, _, none⟩) z5).trans y0
    have z6 : nb < w6.heap.size := Nat.lt_of_lt_of_le z5 hb6.size
    have RL6 := Lib.hid (RL5.out.below hb6)
    have RG6 := Lib.hid (RG5.out.below hb6)
    have RF6 := Lib.hid (RF5.out.below hb6)
    clear y0 z5 RL5 RG5 RF5 hb6 B5
    go_wp2_with fail
    cases hh : hasI l i
    · replace hh := Lib.hid hh
      have hlo := Lib.hid (hsame.out hh.out)
      go_at_call 9
      (with_reducible refine (cancel_none RL6.out hl1000 i hr.out i0' hh.out).mono ?_)
      rintro e w7 ⟨A7, c7, rfl, _, hb7⟩
      have B7 := bt B6 hb7
      have y0 := (hb7.cell (p := ⟨nb, _, none⟩) z6).trans x0
      have z7 : nb < w7.heap.size := Nat.lt_of_lt_of_le z6 hb7.size
      have RL7 := Lib.hid (RL6.out.below hb7)
      have RG7 := Lib.hid (RG6.out.below hb7)
      have RF7 := Lib.hid (RF6.out.below hb7)
      clear x0 z6 RL6 RG6 RF6 hb7 B6
      go_wp2_with fail
      go_at_call 17
      (with_reducible refine (same_true RL7.out RF7.out hlo.out hl1000).mono ?_)
      rintro e w8 ⟨rfl, hb8⟩
      have B8 := bt B7 hb8
      have x0 := (hb8.cell (p := ⟨nb, _, none⟩) z7).trans y0
      have z8 : nb < w8.heap.size := Nat.lt_of_lt_of_le z7 hb8.size
      have RG8 := Lib.hid (RG7.out.below hb8)
      clear y0 z7 RL7 RG7 RF7 hb8 B7
      go_wp2_with fail
      go_at_call 10
      (with_reducible refine (advance_good RG8.out t hgg.out htt.out).mono ?_)
      rw [hD.out]
      rintro e w9 ⟨A9, c9, AD, cD, rfl, _, oD, hb9⟩
      have B9 := bt B8 hb9
      have y0 := (hb9.cell (p := ⟨nb, _, none⟩) z8).trans x0
      have z9 : nb < w9.heap.size := Nat.lt_of_lt_of_le z8 hb9.size
      have RD := Lib.hid (own_row oD)
      clear x0 z8 RG8 hb9 B8 oD
      go_wp2_with fail
      go_loopw [20, 143] (fun m j wr => ∃ k : Nat, k ≤ D.length ∧ j = .int .i64 k ∧ m = .int .i64 (cntI (D.take k) i : Nat) ∧ Below w9.heap.size w9 wr) (fun _ j _ => D.length - (intOf j).toNat)
      case atStart => exact ⟨0, by omega, rfl, rfl, Below.refl _ _⟩
      case round =>
        obtain ⟨k, hk, rfl, rfl, hb⟩ := hrel
        have hs := hb.size
        by_cases hlk : k < D.length
        · obtain ⟨x, hx⟩ : ∃ x, D[k]? = some x := ⟨_, List.getElem?_eq_getElem hlk⟩
          obtain ⟨b, f, rfl, hbw, q0, q1⟩ := SlT.at_ RD.out.sl hx
          replace q0 := (hb.cell (p := ⟨b, _, none⟩) hbw).trans q0
          replace q1 := (hb.cell (p := ⟨b, _, none⟩) hbw).trans q1
          have u0 := (hb.cell (p := ⟨nb, _, none⟩) z9).trans y0
          have hzr : nb < wr.heap.size := Nat.lt_of_lt_of_le z9 hs
          have hcl := cnt_le D i k
          cases hq : x.id == i
          · have hc := Lib.hid (cnt_no hx hq)
            clear hx
            obtain ⟨m, hm⟩ : ∃ m, cntI (D.take k) i = m := ⟨_, rfl⟩
            rw [hm] at hc hcl ⊢
            clear hm
            go_wp2_with fail
            go_roundw
            case rel => exact ⟨k + 1, by omega, by go_num, by rw [hc.out], hb.alloc hs _⟩
            case measure => simp [intOf]; omega
          · have hc := Lib.hid (cnt_yes hx hq)
            clear hx
            obtain ⟨m, hm⟩ : ∃ m, cntI (D.take k) i = m := ⟨_, rfl⟩
            rw [hm] at hc hcl ⊢
            clear hm
            go_wp2_with fail
            go_roundw
            case rel => exact ⟨k + 1, by omega, by go_num, by rw [hc.out]; go_num, hb.alloc hs _⟩
            case measure => simp [intOf]; omega
        · obtain rfl : k = D.length := by omega
          have B10 := bt B9 hb
          rw [List.take_length, hcnt.out]
          clear hb
          go_wp2_with fail
          go_ret
          exact ⟨rfl, fin.out _ B10⟩
    · replace hh := Lib.hid hh
      go_at_call 9
      (with_reducible refine (cancel_good RL6.out hl1000 i hr.out i0' hh.out).mono ?_)
      rw [ho.out]
      rintro e w7 ⟨A7, c7, rfl, o7, hb7⟩
      have RW7 := Lib.hid (own_row o7)
      clear o7
      have B7 := bt B6 hb7
      have y0 := (hb7.cell (p := ⟨nb, _, none⟩) z6).trans x0
      have z7 : nb < w7.heap.size := Nat.lt_of_lt_of_le z6 hb7.size
      have RL7 := Lib.hid (RL6.out.below hb7)
      have RG7 := Lib.hid (RG6.out.below hb7)
      have RF7 := Lib.hid (RF6.out.below hb7)
      clear x0 z6 RL6 RG6 RF6 hb7 B6
      go_wp2_with fail
      go_at_call 17
      (with_reducible refine (same_true RW7.out RF7.out rfl ho1000).mono ?_)
      rintro e w8 ⟨rfl, hb8⟩
      have B8 := bt B7 hb8
      have x0 := (hb8.cell (p := ⟨nb, _, none⟩) z7).trans y0
      have z8 : nb < w8.heap.size := Nat.lt_of_lt_of_le z7 hb8.size
      have RG8 := Lib.hid (RG7.out.below hb8)
      clear y0 z7 RL7 RG7 RF7 hb8 B7
      go_wp2_with fail
      go_at_call 10
      (with_reducible refine (advance_good RG8.out t hgg.out htt.out).mono ?_)
      rw [hD.out]
      rintro e w9 ⟨A9, c9, AD, cD, rfl, _, oD, hb9⟩
      have B9 := bt B8 hb9
      have y0 := (hb9.cell (p := ⟨nb, _, none⟩) z8).trans x0
      have z9 : nb < w9.heap.size := Nat.lt_of_lt_of_le z8 hb9.size
      have RD := Lib.hid (own_row oD)
      clear x0 z8 RG8 hb9 B8 oD
      go_wp2_with fail
      go_loopw [20, 143] (fun m j wr => ∃ k : Nat, k ≤ D.length ∧ j = .int .i64 k ∧ m = .int .i64 (cntI (D.take k) i : Nat) ∧ Below w9.heap.size w9 wr) (fun _ j _ => D.length - (intOf j).toNat)
      case atStart => exact ⟨0, by omega, rfl, rfl, Below.refl _ _⟩
      case round =>
        obtain ⟨k, hk, rfl, rfl, hb⟩ := hrel
        have hs := hb.size
        by_cases hlk : k < D.length
        · obtain ⟨x, hx⟩ : ∃ x, D[k]? = some x := ⟨_, List.getElem?_eq_getElem hlk⟩
          obtain ⟨b, f, rfl, hbw, q0, q1⟩ := SlT.at_ RD.out.sl hx
          replace q0 := (hb.cell (p := ⟨b, _, none⟩) hbw).trans q0
          replace q1 := (hb.cell (p := ⟨b, _, none⟩) hbw).trans q1
          have u0 := (hb.cell (p := ⟨nb, _, none⟩) z9).trans y0
          have hzr : nb < wr.heap.size := Nat.lt_of_lt_of_le z9 hs
          have hcl := cnt_le D i k
          cases hq : x.id == i
          · have hc := Lib.hid (cnt_no hx hq)
            clear hx
            obtain ⟨m, hm⟩ : ∃ m, cntI (D.take k) i = m := ⟨_, rfl⟩
            rw [hm] at hc hcl ⊢
            clear hm
            go_wp2_with fail
            go_roundw
            case rel => exact ⟨k + 1, by omega, by go_num, by rw [hc.out], hb.alloc hs _⟩
            case measure => simp [intOf]; omega
          · have hc := Lib.hid (cnt_yes hx hq)
            clear hx
            obtain ⟨m, hm⟩ : ∃ m, cntI (D.take k) i = m := ⟨_, rfl⟩
            rw [hm] at hc hcl ⊢
            clear hm
            go_wp2_with fail
            go_roundw
            case rel => exact ⟨k + 1, by omega, by go_num, by rw [hc.out]; go_num, hb.alloc hs _⟩
            case measure => simp [intOf]; omega
        · obtain rfl : k = D.length := by omega
          have B10 := bt B9 hb
          rw [List.take_length, hcnt.out]
          clear hb
          go_wp2_with fail
          go_ret
          exact ⟨rfl, fin.out _ B10⟩
end Go.Proofs.Ytdieoecpacplmaa.WheelP
