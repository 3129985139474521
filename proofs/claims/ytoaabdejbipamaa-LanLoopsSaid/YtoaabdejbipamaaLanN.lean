/-
  LanLoops.
-/
import Derived.Test.YtoaabdejbipamaaLanM
import Derived.BigRegion
namespace Go.Proofs.Ytoaabdejbipamaa.LanP
open Go.RowKit Go.Sort Go.Proofs.Ytoaabdejbipamaa.SliceP Go.Proofs.Ytoaabdejbipamaa.BoxP
open Go.Proofs.Ytoaabdejbipamaa.IntP (RowI SlI OwnI)
open Go.Proofs.Ytoaabdejbipamaa.BoolP (RowB SlB OwnB)
open Go.Proofs.Ytoaabdejbipamaa.MacP (classI class_yes class_no ref_right_no ref_right_yes ref_class)
open Go.Proofs.Ytoaabdejbipamaa.LruP (hasI placeI has_more has_hit place_hit place_none place_geq has_true has_false ref_has_is)
set_option linter.unusedVariables false
set_option maxRecDepth 100000
theorem loops_none {l : L} (hf : l.fit) (h : l.plans = []) : l.loops = 0 ∧ l.parts = l.segs := by
  have hp : l.pairs = [] := by unfold L.pairs; rw [h]; rfl
  have h1 := loops_is hf
  have h2 : l.parts = l.n := by unfold L.parts; rw [hp, parts_nil]
  have h3 : (l.n : Int) = l.segs := by have := hf.1; unfold L.n; omega
  rw [hp, h2] at h1
  exact ⟨by rw [h1]; simp, by rw [h2, h3]⟩
theorem plans_at {l : List P} {b : Nat} (hb : b < l.length) : l[b]? = some (l.getD b default) := by rw [List.getD_eq_getElem?_getD, List.getElem?_eq_getElem hb]; rfl
theorem ports_at {l : List Lk} {b : Nat} (hb : b < l.length) : l[b]? = some (l.getD b default) := by rw [List.getD_eq_getElem?_getD, List.getElem?_eq_getElem hb]; rfl
theorem down_ok {n : Int} {p : P} {k : Nat} (hk : k < p.ports.length) (h : P.ok n p = true) : P.ok n (down p k) = true := by
  unfold P.ok at h ⊢
  unfold down
  simp only [List.length_set]
  simp only [Bool.and_eq_true] at h ⊢
  refine ⟨h.1, h.2.1, ?_⟩
  rw [List.all_eq_true]
  intro x hx
  rcases List.mem_or_eq_of_mem_set hx with hx | rfl
  · exact List.all_eq_true.1 h.2.2 x hx
  · exact (show lkB n (p.ports.getD k default) = true from List.all_eq_true.1 h.2.2 _ (List.mem_of_getElem? (ports_at hk)))
theorem cut_ids (l : L) {b : Nat} (hb : b < l.plans.length) (k : Nat) : (l.cut b k).ids = l.ids := by
  unfold L.ids L.cut
  simp only
  rw [List.map_set]
  refine List.ext_getElem (by simp) fun i h1 h2 => ?_
  rw [List.getElem_set]
  split
  · rename_i e
    subst e
    have := plans_at hb
    rw [List.getElem?_eq_getElem hb] at this
    rw [List.getElem_map, Option.some.inj this]; rfl
  · rfl
theorem cut_ok {l : L} (h : l.ok = true) {b k : Nat} (hb : b < l.plans.length) (hk : k < (l.plans.getD b default).ports.length) : (l.cut b k).ok = true := by
  rw [ok_iff] at h ⊢
  obtain ⟨a, b', c, d, e, f, g, i⟩ := h
  refine ⟨a, b', by unfold L.cut; rw [List.length_set]; exact c, d, by rw [cut_ids l hb]; exact e, f, ?_, i⟩
  rw [List.all_eq_true] at g ⊢
  intro x hx
  rcases List.mem_or_eq_of_mem_set hx with hx | rfl
  · exact g x hx
  · exact down_ok hk (g _ (List.mem_of_getElem? (plans_at hb)))
theorem cut_small {l : L} (h : Small l) {b : Nat} (hb : b < l.plans.length) (k : Nat) : Small (l.cut b k) := ⟨by unfold L.cut; rw [List.length_set]; exact h.plans, fun p hp => by
  rcases List.mem_or_eq_of_mem_set hp with hp | rfl
  · exact h.ports p hp
  · unfold down; rw [List.length_set]; exact h.ports _ (List.mem_of_getElem? (plans_at hb)), h.hosts⟩
theorem lv_cut (m : L) (b k : Nat) (A : Option Addr) (c : Nat) (B : Option Addr) (d : Nat) : lv (m.cut b k) A c B d = .agg #[.int .i64 m.segs, .slice A m.plans.length c, .slice B m.hosts.length d] := by
  unfold lv lc
  rw [show (m.cut b k).plans.length = m.plans.length by unfold L.cut; rw [List.length_set]]
  rfl
theorem loops_le {l : L} (hs : Small l) (h8 : l.n ≤ 8) (h0 : 0 ≤ l.segs) : l.loops ≤ 1000 := by
  have h1 := (upsTo_bd hs.ports l.plans.length).2
  have h2 := (brTo_bd l.plans l.plans.length).1
  rw [List.take_length] at h1 h2
  have h3 := parts_le l.pairs l.n
  have h4 := hs.plans
  have e1 : l.upsN = upsTo l.plans := rfl
  have e2 : l.brN = brTo l.plans := rfl
  unfold L.loops L.parts
  rw [e1, e2]
  omega
theorem grown_set {w1 w : World} {row : Option Nat} (h : w1.grownBy w row) {b : Nat} (hb : w1.heap.size ≤ b) (o : Nat) (v : Value) : w1.grownBy (w.setCell ⟨b, o, none⟩ v) row :=
  ⟨h.os, h.tape, h.output, by simpa using h.size, fun k hk hne => ((setCell_grown w b o v).block k (by have := h.size; omega) (by intro e; injection e; omega)).trans (h.block k hk hne)⟩
theorem grown_at {w1 w w' : World} {row row2 : Option Nat} (h : w1.grownBy w row) (g : w.grownBy w' row2) (hn : ∀ k, row2 = some k → w1.heap.size ≤ k) : w1.grownBy w' row :=
  ⟨g.os.trans h.os, g.tape.trans h.tape, g.output.trans h.output, Nat.le_trans h.size g.size, fun k hk hne => (g.block k (by have := h.size; omega) (fun e => by have := hn k e.symm; omega)).trans (h.block k hk hne)⟩
set_option maxHeartbeats 16000000 in
theorem loops_law {l : L} {A : Option Addr} {c : Nat} {B : Option Addr} {d : Nat} {w : World} (hr : LanR w l A c B d) (b0 p0 : Int) : Calls Try.prog 5 #[lv l A c B d, .int .i64 b0, .int .i64 p0] w (True1 w) := by
  obtain ⟨w0, hw0, X0, R0, B0⟩ := new3 w hr
  have hF := Lib.hid (o_few2 hr B0)
  have hsm := Lib.hid (few_small l)
  replace X0 := Lib.hid X0
  replace B0 := Lib.hid B0
  clear hr R0
  go_enter Try.func5, Try.ntmps5
  go_upto_region 1 with fail
  rw [← hw0]
  clear hw0
  have x0 := X0.out.c (i := 0) rfl
  have x1 := X0.out.c (i := 1) rfl
  have x2 := X0.out.c (i := 2) rfl
  have zz := X0.out.lt
  go_wp2_with fail
  go_at_call 7
  (with_reducible refine hF.out.mono ?_)
  rintro e w1 ⟨A1, c1, PL, rfl, hb1, hPL, hK2⟩
  obtain ⟨m, hm⟩ : ∃ m, l.few = m := ⟨_, rfl⟩
  rw [hm] at hPL hK2 hsm ⊢
  have hK := fun X W' a b c => (hK2 X W' a b c).1
  replace hK2 := Lib.hid hK2
  replace hPL := Lib.hid hPL
  replace hm := Lib.hid hm
  clear x0 x1 x2 zz
  have X1 := Lib.hid (X0.out.below hb1)
  have x0 := X1.out.c (i := 0) rfl
  have x1 := X1.out.c (i := 1) rfl
  have x2 := X1.out.c (i := 2) rfl
  have f0 := X1.out.f 0
  have f1 := X1.out.f 1
  have f2 := X1.out.f 2
  have zz := X1.out.lt
  have B1 := Lib.hid (bt B0.out hb1)
  obtain ⟨w2, hw2⟩ : ∃ W, W = ((w1.setCell ⟨w.heap.size, 0, none⟩ (.int .i64 m.segs)).setCell ⟨w.heap.size, 1, none⟩ (.slice A1 m.plans.length c1)).setCell ⟨w.heap.size, 2, none⟩ (.slice B m.hosts.length d) := ⟨_, rfl⟩
  have X2 := Lib.hid (show Bx w2 w.heap.size 25 #[.int .i64 m.segs, .slice A1 m.plans.length c1, .slice B m.hosts.length d] by rw [hw2]; exact Bx.three X1.out)
  have B2 := Lib.hid (show Below w.heap.size w w2 by rw [hw2]; exact below3 B1.out (Nat.le_refl _) _ _ _)
  have R2 := Lib.hid (hK w.heap.size w2 X0.out.lt (by rw [hw2]; exact ((setCell_grown _ _ _ _).trans (setCell_grown _ _ _ _)).trans (setCell_grown _ _ _ _)) B2.out)
  go_upto_region 2 with fail
  rw [← hw2]
  have z2 := X2.out.lt
  have hK9 := Lib.hid hK
  have hx9 := Lib.hid (show w.heap.size < w0.heap.size ∧ w0.heap.size ≤ w1.heap.size from ⟨X0.out.lt, hb1.size⟩)
  have hg9 := Lib.hid (show w1.grownBy w2 (some w.heap.size) by rw [hw2]; exact ((setCell_grown _ _ _ _).trans (setCell_grown _ _ _ _)).trans (setCell_grown _ _ _ _))
  clear hw2 hb1 hK x0 x1 x2 f0 f1 f2 zz X0 X1 B0 B1 hF
  cases ho : m.ok
  · replace ho := Lib.hid ho
    have o_X_0 := X2.out.c (i := 0) rfl
    have o_X_1 := X2.out.c (i := 1) rfl
    have o_X_2 := X2.out.c (i := 2) rfl
    go_wp2_with fail
    clear o_X_0 o_X_1 o_X_2
    go_at_call 11
    (with_reducible refine (o_loops_no R2.out hsm.out ho.out).mono ?_)
    rintro e w101 ⟨rfl, hb101⟩
    have X_w101 := Lib.hid (X2.out.below hb101)
    have R_w101 := Lib.hid (R2.out.below hb101)
    have z0_w101 : w.heap.size < w101.heap.size := Nat.lt_of_lt_of_le z2 hb101.size
    clear X2 R2 z2
    have o_X_0 := X_w101.out.c (i := 0) rfl
    have o_X_1 := X_w101.out.c (i := 1) rfl
    have o_X_2 := X_w101.out.c (i := 2) rfl
    go_wp2_with fail
    clear o_X_0 o_X_1 o_X_2
    go_at_call 10
    (with_reducible refine (o_parts_no R_w101.out hsm.out ho.out).mono ?_)
    rintro e w102 ⟨rfl, hb102⟩
    have X_w102 := Lib.hid (X_w101.out.below hb102)
    have R_w102 := Lib.hid (R_w101.out.below hb102)
    have z0_w102 : w.heap.size < w102.heap.size := Nat.lt_of_lt_of_le z0_w101 hb102.size
    have B_w102 := bt hb101 hb102
    clear X_w101 R_w101 z0_w101 hb101 hb102
    have o_X_0 := X_w102.out.c (i := 0) rfl
    have o_X_1 := X_w102.out.c (i := 1) rfl
    have o_X_2 := X_w102.out.c (i := 2) rfl
    go_wp2_with fail
    clear o_X_0 o_X_1 o_X_2
    go_at_call 14
    (with_reducible refine (alive_is _).mono ?_)
    rintro e w103 ⟨rfl, hb103⟩
    have X_w103 := Lib.hid (X_w102.out.below hb103)
    have R_w103 := Lib.hid (R_w102.out.below hb103)
    have z0_w103 : w.heap.size < w103.heap.size := Nat.lt_of_lt_of_le z0_w102 hb103.size
    have B_w103 := bt B_w102 hb103
    clear X_w102 R_w102 z0_w102 B_w102 hb103
    go_wp2_with fail
    go_ret
    exact ⟨rfl, bt B2.out B_w103⟩
  · have hok := ok_segs ho
    have hfit := Lib.hid (ok_fit ho)
    have h8 := Lib.hid (ok_small8 ho)
    obtain ⟨r, hr9⟩ : ∃ r, m.parts = r := ⟨_, rfl⟩
    obtain ⟨q, hq9⟩ : ∃ q, m.loops = q := ⟨_, rfl⟩
    have hq0 : 0 ≤ q := by rw [← hq9]; exact loops_ge hfit.out
    have hqm : q ≤ 1000 := by rw [← hq9]; exact loops_le hsm.out h8.out (by omega)
    have hrb : 0 ≤ r ∧ r ≤ 8 := by have := parts_le m.pairs m.n; have := h8.out; rw [← hr9]; unfold L.parts; omega
    have hql : ¬ q < 0 := by omega
    replace hr9 := Lib.hid hr9
    replace hq9 := Lib.hid hq9
    replace ho := Lib.hid ho
    have h1s : 1 ≤ m.segs := hok.1
    have h8s : m.segs ≤ 8 := hok.2.1
    replace hok := Lib.hid hok
    have o_X_0 := X2.out.c (i := 0) rfl
    have o_X_1 := X2.out.c (i := 1) rfl
    have o_X_2 := X2.out.c (i := 2) rfl
    go_wp2_with fail
    clear o_X_0 o_X_1 o_X_2
    go_at_call 11
    (with_reducible refine (o_loops_ok R2.out hsm.out ho.out hq9.out).mono ?_)
    rintro e w201 ⟨rfl, hb201⟩
    have X_w201 := Lib.hid (X2.out.below hb201)
    have R_w201 := Lib.hid (R2.out.below hb201)
    have z0_w201 : w.heap.size < w201.heap.size := Nat.lt_of_lt_of_le z2 hb201.size
    clear X2 R2 z2
    have o_X_0 := X_w201.out.c (i := 0) rfl
    have o_X_1 := X_w201.out.c (i := 1) rfl
    have o_X_2 := X_w201.out.c (i := 2) rfl
    go_wp2_with fail
    clear o_X_0 o_X_1 o_X_2
    go_at_call 10
    (with_reducible refine (o_parts_ok R_w201.out hsm.out ho.out hr9.out).mono ?_)
    rintro e w202 ⟨rfl, hb202⟩
    have X_w202 := Lib.hid (X_w201.out.below hb202)
    have R_w202 := Lib.hid (R_w201.out.below hb202)
    have z0_w202 : w.heap.size < w202.heap.size := Nat.lt_of_lt_of_le z0_w201 hb202.size
    have B_w202 := bt hb201 hb202
    clear X_w201 R_w201 z0_w201 hb201 hb202
    have o_X_0 := X_w202.out.c (i := 0) rfl
    have o_X_1 := X_w202.out.c (i := 1) rfl
    have o_X_2 := X_w202.out.c (i := 2) rfl
    go_wp2_with fail
    clear o_X_0 o_X_1 o_X_2
    go_at_call 14
    (with_reducible refine (alive_is _).mono ?_)
    rintro e w203 ⟨rfl, hb203⟩
    have X_w203 := Lib.hid (X_w202.out.below hb203)
    have R_w203 := Lib.hid (R_w202.out.below hb203)
    have z0_w203 : w.heap.size < w203.heap.size := Nat.lt_of_lt_of_le z0_w202 hb203.size
    have B_w203 := bt B_w202 hb203
    clear X_w202 R_w202 z0_w202 B_w202 hb203
    by_cases hh : m.plans.length = 0
    · have hhe : ((m.plans.length : Int) == 0) = true := by rw [beq_iff_eq]; omega
      have hz := loops_none hfit.out (List.length_eq_zero_iff.1 hh)
      have hz1 : (q == 0) = true := by rw [← hq9.out, hz.1]; rfl
      have hz2 : (r == m.segs) = true := by rw [← hr9.out, hz.2]; simp
      replace hh := Lib.hid hh
      replace hz := Lib.hid hz
      have o_X_0 := X_w203.out.c (i := 0) rfl
      have o_X_1 := X_w203.out.c (i := 1) rfl
      have o_X_2 := X_w203.out.c (i := 2) rfl
      go_wp2_with fail
      clear o_X_0 o_X_1 o_X_2
      go_ret
      exact ⟨rfl, bt B2.out B_w203⟩
    · have hhe : ((m.plans.length : Int) == 0) = false := by rw [beq_eq_false_iff_ne]; omega
      have hhp : (0 : Int) < (m.plans.length : Int) := by omega
      have hh8 := hsm.out.plans
      have tb := tmod_lt b0 (m.plans.length : Int) hhp
      replace hh := Lib.hid hh
      have o_X_0 := X_w203.out.c (i := 0) rfl
      have o_X_1 := X_w203.out.c (i := 1) rfl
      have o_X_2 := X_w203.out.c (i := 2) rfl
      go_upto_region 10 with fail
      clear o_X_0 o_X_1 o_X_2
      have K_X_0 := cell_regrown (X_w203.out.c (i := 0) rfl)
      have K_X_1 := cell_regrown (X_w203.out.c (i := 1) rfl)
      have K_X_2 := cell_regrown (X_w203.out.c (i := 2) rfl)
      refine wp_region_quiet_below (by kernel_rfl) (by kernel_rfl) ?_
      repeat (first | go_big_quiet_step (fail) | quiet_step (fail))
      refine wpQuiet_nil ?_
      intro _ hw'
      obtain ⟨⟨dq, osq⟩, hw''⟩ := hw'
      subst hw''
      have hqw204 := below_regrown w203 dq osq
      clear K_X_0 K_X_1 K_X_2
      generalize Go.Sort.grow (redrawn w203 dq) osq = w204 at *
      have X_w204 := Lib.hid (X_w203.out.below hqw204)
      have R_w204 := Lib.hid (R_w203.out.below hqw204)
      have z0_w204 : w.heap.size < w204.heap.size := Nat.lt_of_lt_of_le z0_w203 hqw204.size
      have B_w204 := bt B_w203 hqw204
      clear X_w203 R_w203 z0_w203 B_w203 hqw204
      have mb : 0 ≤ (b0.tmod (m.plans.length : Int) + m.plans.length) % (m.plans.length : Int) ∧ (b0.tmod (m.plans.length : Int) + m.plans.length) % (m.plans.length : Int) < (m.plans.length : Int) := ⟨Int.emod_nonneg _ (by omega), Int.emod_lt_of_pos _ hhp⟩
      generalize (b0.tmod (m.plans.length : Int) + m.plans.length) % (m.plans.length : Int) = bi at *
      obtain ⟨b, hb9⟩ : ∃ b : Nat, bi = (b : Int) := ⟨bi.toNat, by omega⟩
      subst hb9
      have hbn := Lib.hid (show b < m.plans.length by omega)
      have hbl : (b : Int) < (m.plans.length : Int) := mb.2
      have hat := plans_at hbn.out
      have hpm := Lib.hid (List.mem_of_getElem? hat)
      obtain ⟨p, hp⟩ : ∃ p, m.plans.getD b default = p := ⟨_, rfl⟩
      rw [hp] at hat hpm
      have hpo := ok_port ((ok_plans ho.out).2 p hpm.out)
      have hpl1 := hpo.1
      have hpl8 := hpo.2.1
      clear hpo
      have hpe : ((p.ports.length : Int) == 0) = false := by rw [beq_eq_false_iff_ne]; omega
      have hpp : (0 : Int) < (p.ports.length : Int) := by omega
      have tp := tmod_lt p0 (p.ports.length : Int) hpp
      have mp : 0 ≤ (p0.tmod (p.ports.length : Int) + p.ports.length) % (p.ports.length : Int) ∧ (p0.tmod (p.ports.length : Int) + p.ports.length) % (p.ports.length : Int) < (p.ports.length : Int) := ⟨Int.emod_nonneg _ (by omega), Int.emod_lt_of_pos _ hpp⟩
      replace mp := Lib.hid mp
      replace hp := Lib.hid hp
      clear mb tb
      obtain ⟨bP, oP, AB, cB, hAP, hbP, q0, q1, hrowB⟩ := RowP.at_ R_w204.out.plans hat
      subst hAP
      replace hat := Lib.hid hat
      have RB := Lib.hid hrowB
      clear hrowB
      obtain ⟨w91, hw91⟩ : ∃ W, W = w204.alloc (.cells #[] 51) := ⟨_, rfl⟩
      have bb91 : Below w204.heap.size w204 w91 := by rw [hw91]; exact (Below.refl _ _).alloc (Nat.le_refl _) _
      have O91 := Lib.hid (show Own w91 w204.heap.size 51 3 (.slice (some ⟨w204.heap.size, 0, none⟩) 0 0) [] by rw [hw91]; exact own_lit0 _ _ _)
      have H91 := Lib.hid (RB.out.below bb91)
      have X91 := Lib.hid (X_w204.out.below bb91)
      have g91 := Lib.hid (hg9.out.trans (below_grown (bt B_w204 bb91)))
      have B91 := Lib.hid (bt B2.out (bt B_w204 bb91))
      have hsE := Lib.hid (show w1.heap.size ≤ w204.heap.size ∧ w.heap.size < w204.heap.size from ⟨by have := hg9.out.size; have := B_w204.size; omega, X_w204.out.lt⟩)
      have hn1 := Lib.hid (show (([] : List (List Value)).length + (p.ports.map kc).length ≤ 1000000) by simp; omega)
      have hB2 := Lib.hid (show w204.heap.size ≤ w91.heap.size from bb91.size)
      have hnil := Lib.hid H91.out.nil
      clear bb91
      have x1 := X_w204.out.c (i := 1) rfl
      have zz := X_w204.out.lt
      go_wp2_with (at_builtin; rw [← hw91]; (refine wpList_append_sl rfl (.tmp 75) (.tmp 81) 47 rfl elK (by rfl) O91.out (by rfl) (by rw [List.length_map]) H91.out.sl (wholeK _) hnil.out hn1.out hB2.out ?_); intro v' w92 own1 grow1 _; rw [List.nil_append] at own1; clear x1 zz q0 q1 hbP; obtain ⟨A9, c9, rfl⟩ := own_form own1; obtain ⟨g9, rfl, hge, hgl⟩ := own_ptr own1 (by intro h; rw [List.map_eq_nil_iff] at h; rw [h] at hpl1; simp at hpl1); have hX92 := X91.out.grown grow1 (fun e => by have := (O91.out.lt _ e.symm).1; have := hsE.out; omega); have g92 := grown_at g91.out grow1 (fun k e => by have := (O91.out.lt _ e).1; have := hsE.out; omega); have B92 := B91.out.grown grow1 B91.out.size (fun k e => by have := (O91.out.lt _ e).1; have := hsE.out; omega); replace hX92 := Lib.hid hX92; replace g92 := Lib.hid g92; replace B92 := Lib.hid B92; replace own1 := Lib.hid own1; replace hge := Lib.hid hge; clear grow1)
      obtain ⟨mp1, mp2⟩ := mp.out
      clear mp
      generalize (p0.tmod (p.ports.length : Int) + p.ports.length) % (p.ports.length : Int) = ki at *
      obtain ⟨k, hk9⟩ : ∃ k : Nat, ki = (k : Int) := ⟨ki.toNat, by omega⟩
      subst hk9
      have hkn := Lib.hid (show k < p.ports.length by omega)
      have hkl : (k : Int) < (p.ports.length : Int) := mp2
      clear mp1 tp
      have RK := Lib.hid (Row.own (g := kc) own1.out (by decide))
      have hg9w := Lib.hid (show w.heap.size < g9 ∧ w1.heap.size ≤ g9 from by have := hge.out; have := hsE.out; omega)
      go_loopw [12, 98] (fun u i wr => ∃ j : Nat, j ≤ p.ports.length ∧ i = .int .i64 j ∧ u = .int .i64 (((p.ports.take j).filter Lk.up).length : Nat) ∧ Below w92.heap.size w92 wr) (fun _ i _ => p.ports.length - (intOf i).toNat)
      case atStart => exact ⟨0, by omega, rfl, rfl, Below.refl _ _⟩
      case round =>
        obtain ⟨j, hj, rfl, rfl, hb⟩ := hrel
        have hfl := List.length_filter_le Lk.up (p.ports.take j)
        rw [List.length_take] at hfl
        by_cases hjn : j < p.ports.length
        · have hjl : (j : Int) < (p.ports.length : Int) := by omega

          obtain ⟨y, hy⟩ : ∃ y, p.ports[j]? = some y := ⟨_, List.getElem?_eq_getElem hjn⟩
          obtain ⟨bS7, oS7, hAS7, hbS7, q7_0, q7_1, q7_2⟩ := Row.kat (RK.out.below hb) hy
          injection hAS7 with hAS7
          injection hAS7 with e1 e2 e3
          subst e1; subst e2
          rw [Nat.zero_add] at q7_0 q7_1 q7_2
          obtain ⟨w7, hw7⟩ : ∃ W, W = wr.alloc (.cells #[.int .i64 y.seg, .int .i64 y.cost, .bool y.up] 51) := ⟨_, rfl⟩
          have bb7 : Below wr.heap.size wr w7 := by rw [hw7]; exact (Below.refl _ _).alloc (Nat.le_refl _) _
          have b7 := Lib.hid (bt hb bb7)
          have X7 := Lib.hid (show Bx w7 wr.heap.size 51 #[.int .i64 y.seg, .int .i64 y.cost, .bool y.up] by rw [hw7]; exact Bx.new _ _ _ rfl)
          have hst := filter_succ Lk.up hy
          replace hy := Lib.hid hy
          clear hb bb7
          go_upto_region 19 with fail
          rw [← hw7]
          clear hw7 q7_0 q7_1 q7_2 hbS7
          have o7_0 := X7.out.c (i := 0) rfl
          have o7_1 := X7.out.c (i := 1) rfl
          have o7_2 := X7.out.c (i := 2) rfl
          have zz7 := X7.out.lt
          obtain ⟨n, hn⟩ : ∃ n, ((p.ports.take j).filter Lk.up).length = n := ⟨_, rfl⟩
          have hst2 : ((p.ports.take (j + 1)).filter Lk.up).length = n + if y.up = true then 1 else 0 := by rw [hst, List.length_append, hn]; split <;> rfl
          rw [hn] at hfl ⊢
          replace hn := Lib.hid hn
          replace hst := Lib.hid hst
          cases hq1 : y.up
          · rw [hq1, if_neg (by simp)] at hst2
            rw [hq1] at o7_2
            replace hq1 := Lib.hid hq1
            replace hst2 := Lib.hid hst2
            go_wp2_with fail
            go_roundw
            case rel => exact ⟨j + 1, by omega, by go_num, by rw [hst2.out]; rfl, b7.out⟩
            case measure => simp [intOf]; omega
          · rw [hq1, if_pos rfl] at hst2
            rw [hq1] at o7_2
            replace hq1 := Lib.hid hq1
            replace hst2 := Lib.hid hst2
            go_wp2_with fail
            go_roundw
            case rel => exact ⟨j + 1, by omega, by go_num, by rw [hst2.out]; go_num, b7.out⟩
            case measure => simp [intOf]; omega
        · obtain rfl : j = p.ports.length := by omega
          rw [List.take_length] at hfl ⊢
          have hux : (ups p).length = (p.ports.filter Lk.up).length := by unfold ups; rw [List.length_map]
          rw [← hux] at hfl ⊢
          obtain ⟨u, hu⟩ : ∃ u, (ups p).length = u := ⟨_, rfl⟩
          rw [hu] at hfl ⊢
          replace hux := Lib.hid hux
          have hkat := ports_at hkn.out
          obtain ⟨x, hx⟩ : ∃ x, p.ports.getD k default = x := ⟨_, rfl⟩
          rw [hx] at hkat
          have hkc : (p.ports.map kc)[k]? = some (kc x) := by rw [List.getElem?_map, hkat]; rfl
          have own2 := own1.out.below hb
          have X2' := hX92.out.below hb
          have g2' := g92.out.trans (below_grown hb)
          have B2' := bt B92.out hb
          have cu := own_cell own2 (by decide) hkc (i := 2) rfl
          obtain ⟨fu, zu⟩ := own_free own2 (k * 3 + 2)
          have hput := own_put (i := 2) own2 hkc (by decide) (v := .bool false) rfl
          have hne1 : ¬ g9 = w.heap.size := fun e => by have := hg9w.out; omega
          have hne2 : ¬ w.heap.size = g9 := fun e => hne1 e.symm
          obtain ⟨w93, hw93⟩ : ∃ W, W = wr.setCell ⟨g9, k * 3 + 2, none⟩ (.bool false) := ⟨_, rfl⟩
          rw [← hw93] at hput
          have X93 := (show Bx w93 w.heap.size 25 _ by rw [hw93]; exact X2'.other hne2 _ _)
          have g93 := (show w1.grownBy w93 (some w.heap.size) by rw [hw93]; exact grown_set g2' hg9w.out.2 _ _)
          have B93 := (show Below w.heap.size w w93 by rw [hw93]; exact B2'.setCell (show w.heap.size ≤ g9 by have := hg9w.out; omega) _)
          obtain ⟨w94, hw94⟩ : ∃ W, W = w93.alloc (.cells #[] 49) := ⟨_, rfl⟩
          have bb94 : Below w93.heap.size w93 w94 := by rw [hw94]; exact (Below.refl _ _).alloc (Nat.le_refl _) _
          have hwz : w93.heap.size = wr.heap.size := by rw [hw93]; simp
          have O94 := Lib.hid (show Own w94 wr.heap.size 49 2 (.slice (some ⟨wr.heap.size, 0, none⟩) 0 0) [] by have := own_lit0 w93 49 2; rw [← hw94, hwz] at this; exact this)
          have own94 := Lib.hid (hput.below bb94)
          have X94 := Lib.hid (X93.below bb94)
          have g94 := Lib.hid (g93.trans (below_grown bb94))
          have B94 := Lib.hid (bt B93 bb94)
          have hsl94 := Lib.hid ((hK2.out w.heap.size w94 hx9.out.1 g94.out B94.out).2.1)
          have hpln := Lib.hid (show m.plans.length = PL.length by rw [hPL.out, List.length_map])
          have hn94 := Lib.hid (show (([] : List (List Value)).length + (PL.map PP.cells).length ≤ 1000000) by rw [List.length_map]; have := hpln.out; simp; omega)
          have hB94 := Lib.hid (show wr.heap.size ≤ w94.heap.size by have := bb94.size; omega)
          have hs93 := Lib.hid (show g9 < wr.heap.size ∧ w.heap.size < wr.heap.size ∧ w1.heap.size ≤ wr.heap.size from ⟨zu, by rw [← hwz]; exact X93.lt, by rw [← hwz]; exact g93.size⟩)
          replace hwz := Lib.hid hwz
          have x1 := X2'.c (i := 1) rfl
          have zz := X2'.lt
          have hfz := X2'.f 1
          replace hput := Lib.hid hput
          replace hkat := Lib.hid hkat
          replace hkc := Lib.hid hkc
          replace hx := Lib.hid hx
          replace hu := Lib.hid hu
          clear own2 X2' g2' B2' X93 g93 B93 bb94 hb
          go_upto_region 25 with (at_builtin; rw [← hw93, ← hw94]; (refine wpList_append_sl rfl (.tmp 116) (.tmp 118) 22 rfl elP (by rfl) O94.out (by rfl) (by rw [List.length_map]; exact hpln.out) hsl94.out (wholeP _) (fun h => by cases h) hn94.out hB94.out ?_); intro v' w95 own8 grow8 _; rw [List.nil_append] at own8; clear x1 zz hfz cu fu zu; have hfm := own8.form; rw [List.length_map, ← hpln.out] at hfm; obtain ⟨A8, c8, rfl, _⟩ := hfm; obtain ⟨g8, rfl, hge8, hgl8⟩ := own_ptr own8 (by intro h; rw [List.map_eq_nil_iff] at h; have := hpln.out; rw [h, List.length_nil] at this; omega); have hX95 := X94.out.grown grow8 (fun e => by have := (O94.out.lt _ e.symm).1; have := hs93.out; omega); have g95 := grown_at g94.out grow8 (fun k e => by have := (O94.out.lt _ e).1; have := hs93.out; omega); have B95 := B94.out.grown grow8 B94.out.size (fun k e => by have := (O94.out.lt _ e).1; have := hs93.out; omega); have own95 := own94.out.kept grow8 (.inr (fun e => by have := (O94.out.lt g9 e.symm).1; have := hs93.out; omega)); have x1 := hX95.c (i := 1) rfl; have hfz := hX95.f 1; have zz := hX95.lt; replace hX95 := Lib.hid hX95; replace g95 := Lib.hid g95; replace B95 := Lib.hid B95; replace own8 := Lib.hid own8; replace own95 := Lib.hid own95; replace hge8 := Lib.hid hge8; clear grow8)
          obtain ⟨w96, hw96⟩ : ∃ W, W = w95.setCell ⟨w.heap.size, 1, none⟩ (.slice (some ⟨g8, 0, none⟩) m.plans.length c8) := ⟨_, rfl⟩
          have hg8w := Lib.hid (show w.heap.size < g8 ∧ w1.heap.size ≤ g8 ∧ g9 < g8 from by have := hge8.out; have := hs93.out; omega)
          have hn81 : ¬ g8 = w.heap.size := fun e => by have := hg8w.out; omega
          have hn82 : ¬ w.heap.size = g8 := fun e => hn81 e.symm
          have hn83 : ¬ g9 = g8 := fun e => by have := hg8w.out; omega
          have X96 := (show Bx w96 w.heap.size 25 #[.int .i64 m.segs, .slice (some ⟨g8, 0, none⟩) m.plans.length c8, .slice B m.hosts.length d] by rw [hw96]; exact hX95.out.set 1 _)
          have P96 := (show Own w96 wr.heap.size 49 2 (.slice (some ⟨g8, 0, none⟩) m.plans.length c8) (PL.map PP.cells) by rw [hw96]; exact own8.out.kept (setCell_grown _ _ _ _) (.inr (fun e => by injection e with e; exact hn81 e)))
          have K96 := Lib.hid (show Own w96 _ 51 3 (.slice (some ⟨g9, 0, none⟩) p.ports.length c9) _ by rw [hw96]; exact own95.out.kept (setCell_grown _ _ _ _) (.inr (fun e => by injection e with e; exact hne1 e)))
          have g96 := Lib.hid (show w1.grownBy w96 (some w.heap.size) by rw [hw96]; exact g95.out.trans (setCell_grown _ _ _ _))
          have B96 := Lib.hid (show Below w.heap.size w w96 by rw [hw96]; exact B95.out.setCell (Nat.le_refl _) _)
          obtain ⟨y, hy, hyp⟩ : ∃ y, PL[b]? = some y ∧ y.p = p := by
            have := hat.out
            rw [hPL.out, List.getElem?_map] at this
            exact Option.map_eq_some_iff.1 this
          have hbc : (PL.map PP.cells)[b]? = some y.cells := by rw [List.getElem?_map, hy]; rfl
          have c0 := own_cell P96 (by decide) hbc (i := 0) rfl
          have c1' := own_cell P96 (by decide) hbc (i := 1) rfl
          rw [Nat.add_zero, hyp] at c0
          obtain ⟨f0, z8⟩ := own_free P96 (b * 2)
          obtain ⟨f1, _⟩ := own_free P96 (b * 2 + 1)
          have hbPL := Lib.hid (show b < PL.length from (List.getElem?_eq_some_iff.1 hy).1)
          replace hy := Lib.hid hy
          replace hyp := Lib.hid hyp
          replace hbc := Lib.hid hbc
          have y1 := X96.c (i := 1) rfl
          have yz := X96.lt
          rw [← hw96]
          clear hw96 x1 zz hfz
          replace X96 := Lib.hid X96
          replace P96 := Lib.hid P96
          go_region
          obtain ⟨w97, hw97⟩ : ∃ W, W = ((w96.setCell ⟨g8, b * 2, none⟩ (.int .i64 p.id)).setCell ⟨g8, b * 2 + 1, none⟩ (.slice (some ⟨g9, 0, none⟩) p.ports.length c9)).drew := ⟨_, rfl⟩
          have hdr : ∀ W : World, Below W.heap.size W W.drew := fun W => (Below.refl _ _).drew
          have X97 := Lib.hid (show Bx w97 w.heap.size 25 #[.int .i64 m.segs, .slice (some ⟨g8, 0, none⟩) m.plans.length c8, .slice B m.hosts.length d] by rw [hw97]; exact ((X96.out.other hn82 _ _).other hn82 _ _).below (hdr _))
          have P97 := (show Own w97 wr.heap.size 49 2 (.slice (some ⟨g8, 0, none⟩) m.plans.length c8) ((PL.map PP.cells).set b [.int .i64 p.id, .slice (some ⟨g9, 0, none⟩) p.ports.length c9]) by rw [hw97]; exact (own_put2 P96.out (by rw [List.length_map]; exact hbPL.out) rfl rfl).below (hdr _))
          have K97 := (show Own w97 _ 51 3 (.slice (some ⟨g9, 0, none⟩) p.ports.length c9) _ by rw [hw97]; exact ((K96.out.kept (setCell_grown _ _ _ _) (.inr (fun e => by injection e with e; exact hn83 e))).kept (setCell_grown _ _ _ _) (.inr (fun e => by injection e with e; exact hn83 e))).below (hdr _))
          have g97 := Lib.hid (show w1.grownBy w97 (some w.heap.size) by rw [hw97]; exact (grown_set (grown_set g96.out hg8w.out.2.1 _ _) hg8w.out.2.1 _ _).trans (below_grown (hdr _)))
          have B97 := Lib.hid (show Below w.heap.size w w97 by rw [hw97]; exact ((B96.out.setCell (show w.heap.size ≤ g8 by have := hg8w.out; omega) _).setCell (show w.heap.size ≤ g8 by have := hg8w.out; omega) _).drew)
          rw [← hw97]
          clear hw97 hdr c0 c1' f0 f1 z8 y1 yz
          obtain ⟨hL97, hS97, hI97⟩ := hK2.out w.heap.size w97 hx9.out.1 g97.out B97.out
          have hdl : (down p k).ports.length = p.ports.length := by unfold down; rw [List.length_set]
          have hdk : (p.ports.map kc).set k ((kc x).set 2 (.bool false)) = ((down p k).ports).map kc := by
            unfold down
            rw [List.map_set, hx.out]; rfl
          have hzc : PP.cells ⟨down p k, some ⟨g9, 0, none⟩, c9⟩ = [.int .i64 p.id, .slice (some ⟨g9, 0, none⟩) p.ports.length c9] := by unfold PP.cells; rw [hdl]; rfl
          rw [hdk] at K97
          have rK := Row.own (g := kc) K97 (by decide)
          rw [rK.len] at rK
          rw [← hzc, ← List.map_set] at P97
          have hcl : (m.cut b k).plans = (PL.set b ⟨down p k, some ⟨g9, 0, none⟩, c9⟩).map PP.p := by
            rw [List.map_set, ← hPL.out]
            unfold L.cut
            rw [hp.out]
          have hcn : (m.cut b k).plans.length = m.plans.length := by unfold L.cut; rw [List.length_set]
          have R97 := Lib.hid (show LanR w97 (m.cut b k) (some ⟨g8, 0, none⟩) c8 B d from ⟨by
            rw [hcl, show ((PL.set b ⟨down p k, some ⟨g9, 0, none⟩, c9⟩).map PP.p).length = m.plans.length by rw [← hcl, hcn]]
            refine RowP.new P97 (fun z hz => ?_)
            rcases List.mem_or_eq_of_mem_set hz with hz | rfl
            · exact hI97 z hz
            · exact rK, hL97.hosts⟩)
          have hkq : k < (m.plans.getD b default).ports.length := by rw [hp.out]; exact hkn.out
          have hco := Lib.hid (cut_ok ho.out hbn.out hkq)
          have hcs := Lib.hid (cut_small hsm.out hbn.out k)
          obtain ⟨r2, hr2⟩ : ∃ r2, (m.cut b k).parts = r2 := ⟨_, rfl⟩
          obtain ⟨q2, hq2⟩ : ∃ q2, (m.cut b k).loops = q2 := ⟨_, rfl⟩
          have hnone := cut_none hfit.out hbn.out hkq
          have hsome := cut_some hfit.out hbn.out hkq
          rw [hp.out, hx.out, hu.out, hr2, hq2, hr9.out, hq9.out] at hnone hsome
          have hCL := Lib.hid (fun W (hW : LanR W (m.cut b k) (some ⟨g8, 0, none⟩) c8 B d) => show Calls Try.prog 11 #[.agg #[.int .i64 m.segs, .slice (some ⟨g8, 0, none⟩) m.plans.length c8, .slice B m.hosts.length d]] W _ from by have := o_loops_ok hW hcs.out hco.out hq2; rw [lv_cut] at this; exact this)
          have hCP := Lib.hid (fun W (hW : LanR W (m.cut b k) (some ⟨g8, 0, none⟩) c8 B d) => show Calls Try.prog 10 #[.agg #[.int .i64 m.segs, .slice (some ⟨g8, 0, none⟩) m.plans.length c8, .slice B m.hosts.length d]] W _ from by have := o_parts_ok hW hcs.out hco.out hr2; rw [lv_cut] at this; exact this)
          replace hr2 := Lib.hid hr2
          replace hq2 := Lib.hid hq2
          replace hkq := Lib.hid hkq
          clear hL97 hS97 hI97 hdl hdk hzc hcl hcn P97 K97 rK
          have z97 := X97.out.lt
          obtain ⟨up, hup⟩ : ∃ v, x.up = v := ⟨_, rfl⟩
          rw [hup] at hnone hsome ⊢
          replace hup := Lib.hid hup
          have hnone := Lib.hid hnone
          have hsome := Lib.hid hsome
          have o_X_0 := X97.out.c (i := 0) rfl
          have o_X_1 := X97.out.c (i := 1) rfl
          have o_X_2 := X97.out.c (i := 2) rfl
          go_wp2_with fail
          clear o_X_0 o_X_1 o_X_2
          go_at_call 11
          (with_reducible refine (hCL.out _ R97.out).mono ?_)
          rintro e w501 ⟨rfl, hb501⟩
          have X_w501 := Lib.hid (X97.out.below hb501)
          have R_w501 := Lib.hid (R97.out.below hb501)
          have z0_w501 : w.heap.size < w501.heap.size := Nat.lt_of_lt_of_le z97 hb501.size
          clear X97 R97 z97
          have o_X_0 := X_w501.out.c (i := 0) rfl
          have o_X_1 := X_w501.out.c (i := 1) rfl
          have o_X_2 := X_w501.out.c (i := 2) rfl
          go_wp2_with fail
          clear o_X_0 o_X_1 o_X_2
          go_at_call 10
          (with_reducible refine (hCP.out _ R_w501.out).mono ?_)
          rintro e w502 ⟨rfl, hb502⟩
          have X_w502 := Lib.hid (X_w501.out.below hb502)
          have R_w502 := Lib.hid (R_w501.out.below hb502)
          have z0_w502 : w.heap.size < w502.heap.size := Nat.lt_of_lt_of_le z0_w501 hb502.size
          have B_w502 := bt hb501 hb502
          clear X_w501 R_w501 z0_w501 hb501 hb502
          have Bf := Lib.hid (bt B97.out B_w502)
          clear B_w502
          cases up
          · obtain ⟨e1, e2⟩ := hnone.out (.inl rfl)
            subst e1; subst e2
            clear hnone hsome
            go_wp2_with fail
            go_ret
            exact ⟨rfl, Bf.out⟩
          · by_cases hu1 : u = 1
            · have hu2 : ((u : Int) == 1) = true := by rw [beq_iff_eq]; omega
              obtain ⟨e1, e2⟩ := hnone.out (.inr hu1)
              subst e1; subst e2
              clear hnone hsome
              replace hu1 := Lib.hid hu1
              go_wp2_with fail
              go_ret
              exact ⟨rfl, Bf.out⟩
            · have hu2 : ((u : Int) == 1) = false := by rw [beq_eq_false_iff_ne]; omega
              rcases hsome.out rfl hu1 with ⟨e1, e2⟩ | ⟨e1, e2⟩
              · subst e1; subst e2
                clear hnone hsome
                replace hu1 := Lib.hid hu1
                go_wp2_with fail
                go_ret
                exact ⟨rfl, Bf.out⟩
              · subst e1; subst e2
                clear hnone hsome
                replace hu1 := Lib.hid hu1
                have hqq : (q2 == q2 - 1) = false := by rw [beq_eq_false_iff_ne]; omega
                go_wp2_with fail
                go_ret
                exact ⟨rfl, Bf.out⟩
theorem loops_go (v : Value) (b p : Int) {w : World} (hv : InLan w v) (_hb : (Lit.int .i64 b).wf = true) (_hp : (Lit.int .i64 p).wf = true) : Calls Try.prog 5 #[v, .int .i64 b, .int .i64 p] w (True1 w) := by
  obtain ⟨l, A, c, B, d, rfl, hr⟩ := hv
  exact loops_law hr b p
end Go.Proofs.Ytoaabdejbipamaa.LanP
