/-
  LanParts.
-/
import Derived.Test.YtoaabdejbipamaaLanL
import Derived.BigRegion
namespace Go.Proofs.Ytoaabdejbipamaa.LanP
open Go.RowKit Go.Sort Go.Proofs.Ytoaabdejbipamaa.SliceP Go.Proofs.Ytoaabdejbipamaa.BoxP
open Go.Proofs.Ytoaabdejbipamaa.IntP (RowI SlI OwnI)
open Go.Proofs.Ytoaabdejbipamaa.BoolP (RowB SlB OwnB)
open Go.Proofs.Ytoaabdejbipamaa.MacP (classI class_yes class_no ref_right_no ref_right_yes ref_class)
open Go.Proofs.Ytoaabdejbipamaa.LruP (hasI placeI has_more has_hit place_hit place_none place_geq has_true has_false ref_has_is)
set_option linter.unusedVariables false
set_option maxRecDepth 100000
theorem tmod_lt (n m : Int) (h0 : 0 < m) : -m < n.tmod m ∧ n.tmod m < m := by
  have := Int.natAbs_tmod n m
  have h3 : (n.tmod m).natAbs < m.natAbs := by rw [this]; exact Nat.mod_lt _ (by omega)
  omega
theorem mod_bd (n m : Int) (h0 : 0 < m) : 0 ≤ (n.tmod m + m).tmod m ∧ (n.tmod m + m).tmod m < m := by
  have h2 := tmod_lt n m h0
  rw [Int.tmod_eq_emod_of_nonneg (a := n.tmod m + m) (by omega)]
  exact ⟨Int.emod_nonneg _ (by omega), Int.emod_lt_of_pos _ h0⟩
theorem has_row {A : Option Addr} {n c : Nat} {l : List Int} {w : World} (h : Row ic 1 w A n c l) (x : Int) {b : Bool} (hb : hasI l x = b) (hl : l.length ≤ 1000) :
    Calls Try.prog 23 #[.slice A n c, .int .i64 x] w fun e w' => e = .returned (.bool b) ∧ Below w.heap.size w w' :=
  (ref_has_is h.rowI x b hb (by omega)).mono fun e w' ⟨h1, h2⟩ => ⟨h1, h2 ▸ Below.refl _ _⟩
theorem has_part {l : L} {s t : Int} (h0 : 0 ≤ t) (h1 : t < l.n) : hasI (l.part s) t = decide (lab l.pairs t = lab l.pairs s) := by
  rw [Bool.eq_iff_iff, has_true, mem_part]
  simp [h0, h1]
set_option maxHeartbeats 8000000 in
theorem on_is {A : Option Addr} {c : Nat} {p : P} {w : World} {s : Int} {g : Nat} (hX : Bx w g 49 #[.int .i64 p.id, .slice A p.ports.length c]) (hr : Row kc 3 w A p.ports.length c p.ports) (hl : p.ports.length ≤ 1000) {b : Bool} (he : joins p s = b) :
    Calls Try.prog 24 #[.int .i64 s, .pointer (some ⟨g, 0, none⟩)] w fun e w' => e = .returned (.bool b) ∧ Below w.heap.size w w' := by
  have H := Lib.hid hr
  clear hr
  have x1 := hX.c (i := 1) rfl
  have zz := hX.lt
  replace hX := Lib.hid hX
  unfold joins at he
  replace he := Lib.hid he
  go_enter Try.func24, Try.ntmps24
  go_wp2_with fail
  clear x1 zz
  go_loopw [9] (fun i wr => ∃ k : Nat, k ≤ p.ports.length ∧ i = .int .i64 k ∧ (p.ports.take k).any (fun x => x.up && x.seg == s) = false ∧ Below w.heap.size w wr) (fun i _ => p.ports.length - (intOf i).toNat)
  case atStart => exact ⟨0, by omega, rfl, rfl, Below.refl _ _⟩
  case round =>
    obtain ⟨k, hk, rfl, hno, hb⟩ := hrel
    by_cases hkn : k < p.ports.length
    · have hkl : (k : Int) < (p.ports.length : Int) := by omega
      obtain ⟨x, hx⟩ : ∃ x, p.ports[k]? = some x := ⟨_, List.getElem?_eq_getElem hkn⟩
      obtain ⟨bS8, oS8, hAS8, hbS8, q8_0, q8_1, q8_2⟩ := Row.kat (H.out.below hb) hx
      subst hAS8
      obtain ⟨w8, hw8⟩ : ∃ W, W = wr.alloc (.cells #[.int .i64 x.seg, .int .i64 x.cost, .bool x.up] 51) := ⟨_, rfl⟩
      have bb8 : Below wr.heap.size wr w8 := by rw [hw8]; exact (Below.refl _ _).alloc (Nat.le_refl _) _
      have b8 := Lib.hid (bt hb bb8)
      have X8 := Lib.hid (show Bx w8 wr.heap.size 51 #[.int .i64 x.seg, .int .i64 x.cost, .bool x.up] by rw [hw8]; exact Bx.new _ _ _ rfl)
      have hgood := Lib.hid fun h => any_more (f := fun x : Lk => x.up && x.seg == s) hx hno h
      have hhit := Lib.hid fun h => any_hit (f := fun x : Lk => x.up && x.seg == s) hx h
      clear hno
      replace hx := Lib.hid hx
      clear hb bb8
      go_upto_region 4 with fail
      rw [← hw8]
      clear hw8 q8_0 q8_1 q8_2 hbS8
      have o8_0 := X8.out.c (i := 0) rfl
      have o8_1 := X8.out.c (i := 1) rfl
      have o8_2 := X8.out.c (i := 2) rfl
      have zz8 := X8.out.lt
      cases hq1 : x.up
      · have hs2 := Lib.hid (hgood.out (by rw [hq1]; rfl))
        rw [hq1] at o8_2
        replace hq1 := Lib.hid hq1
        go_wp2_with fail
        go_roundw
        case rel => exact ⟨k + 1, by omega, by go_num, hs2.out, b8.out⟩
        case measure => simp [intOf]; omega
      · cases hq2 : (x.seg == s)
        · have hs2 := Lib.hid (hgood.out (by rw [hq1, hq2]; rfl))
          rw [hq1] at o8_2
          replace hq1 := Lib.hid hq1
          go_wp2_with fail
          go_roundw
          case rel => exact ⟨k + 1, by omega, by go_num, hs2.out, b8.out⟩
          case measure => simp [intOf]; omega
        · have he2 := Lib.hid (he.out.symm.trans (hhit.out (by rw [hq1, hq2]; rfl)))
          rw [hq1] at o8_2
          replace hq1 := Lib.hid hq1
          clear he
          go_wp2_with fail
          go_ret
          exact ⟨by cases he2.out; rfl, b8.out⟩
    · obtain rfl : k = p.ports.length := by omega
      rw [List.take_length] at hno
      have he2 := Lib.hid (he.out.symm.trans hno)
      replace hb := Lib.hid hb
      clear hno he
      go_wp2_with fail
      go_ret
      exact ⟨by cases he2.out; rfl, hb.out⟩
set_option maxHeartbeats 16000000 in
theorem parts_law {l : L} {A : Option Addr} {c : Nat} {B : Option Addr} {d : Nat} {w : World} (hr : LanR w l A c B d) (a0 b0 : Int) : Calls Try.prog 4 #[lv l A c B d, .int .i64 a0, .int .i64 b0] w (True1 w) := by
  obtain ⟨w0, hw0, X0, R0, B0⟩ := new3 w hr
  have hF := Lib.hid (o_few hr B0)
  have hsm := Lib.hid (few_small l)
  replace X0 := Lib.hid X0
  replace B0 := Lib.hid B0
  clear hr R0
  go_enter Try.func4, Try.ntmps4
  go_upto_region 1 with fail
  rw [← hw0]
  clear hw0
  have x0 := X0.out.c (i := 0) rfl
  have x1 := X0.out.c (i := 1) rfl
  have x2 := X0.out.c (i := 2) rfl
  have zz := X0.out.lt
  go_wp2_with fail
  go_at_call 7
  (with_reducible refine hF.out.mono ?_)
  rintro e w1 ⟨A1, c1, rfl, hb1, hK⟩
  obtain ⟨m, hm⟩ : ∃ m, l.few = m := ⟨_, rfl⟩
  rw [hm] at hK hsm ⊢
  replace hm := Lib.hid hm
  clear x0 x1 x2 zz
  have X1 := Lib.hid (X0.out.below hb1)
  have x0 := X1.out.c (i := 0) rfl
  have x1 := X1.out.c (i := 1) rfl
  have x2 := X1.out.c (i := 2) rfl
  have f0 := X1.out.f 0
  have f1 := X1.out.f 1
  have f2 := X1.out.f 2
  have zz := X1.out.lt
  have B1 := Lib.hid (bt B0.out hb1)
  obtain ⟨w2, hw2⟩ : ∃ W, W = ((w1.setCell ⟨w.heap.size, 0, none⟩ (.int .i64 m.segs)).setCell ⟨w.heap.size, 1, none⟩ (.slice A1 m.plans.length c1)).setCell ⟨w.heap.size, 2, none⟩ (.slice B m.hosts.length d) := ⟨_, rfl⟩
  have X2 := Lib.hid (show Bx w2 w.heap.size 25 #[.int .i64 m.segs, .slice A1 m.plans.length c1, .slice B m.hosts.length d] by rw [hw2]; exact Bx.three X1.out)
  have B2 := Lib.hid (show Below w.heap.size w w2 by rw [hw2]; exact below3 B1.out (Nat.le_refl _) _ _ _)
  have R2 := Lib.hid (hK w.heap.size w2 X0.out.lt (by rw [hw2]; exact ((setCell_grown _ _ _ _).trans (setCell_grown _ _ _ _)).trans (setCell_grown _ _ _ _)) B2.out)
  go_upto_region 2 with fail
  rw [← hw2]
  have z2 := X2.out.lt
  clear hw2 hb1 hK x0 x1 x2 f0 f1 f2 zz X0 X1 B0 B1 hF
  cases ho : m.ok
  · replace ho := Lib.hid ho
    have o_X_0 := X2.out.c (i := 0) rfl
    have o_X_1 := X2.out.c (i := 1) rfl
    have o_X_2 := X2.out.c (i := 2) rfl
    go_wp2_with fail
    clear o_X_0 o_X_1 o_X_2
    go_at_call 12
    (with_reducible refine (o_right R2.out hsm.out ho.out).mono ?_)
    rintro e w101 ⟨rfl, hb101⟩
    have X_w101 := Lib.hid (X2.out.below hb101)
    have R_w101 := Lib.hid (R2.out.below hb101)
    have z0_w101 : w.heap.size < w101.heap.size := Nat.lt_of_lt_of_le z2 hb101.size
    clear X2 R2 z2
    have o_X_0 := X_w101.out.c (i := 0) rfl
    have o_X_1 := X_w101.out.c (i := 1) rfl
    have o_X_2 := X_w101.out.c (i := 2) rfl
    go_wp2_with fail
    clear o_X_0 o_X_1 o_X_2
    go_at_call 10
    (with_reducible refine (o_parts_no R_w101.out hsm.out ho.out).mono ?_)
    rintro e w102 ⟨rfl, hb102⟩
    have X_w102 := Lib.hid (X_w101.out.below hb102)
    have R_w102 := Lib.hid (R_w101.out.below hb102)
    have z0_w102 : w.heap.size < w102.heap.size := Nat.lt_of_lt_of_le z0_w101 hb102.size
    have B_w102 := bt hb101 hb102
    clear X_w101 R_w101 z0_w101 hb101 hb102
    have o_X_0 := X_w102.out.c (i := 0) rfl
    have o_X_1 := X_w102.out.c (i := 1) rfl
    have o_X_2 := X_w102.out.c (i := 2) rfl
    go_wp2_with fail
    clear o_X_0 o_X_1 o_X_2
    go_at_call 14
    (with_reducible refine (alive_is w102).mono ?_)
    rintro e w103 ⟨rfl, hb103⟩
    have X_w103 := Lib.hid (X_w102.out.below hb103)
    have R_w103 := Lib.hid (R_w102.out.below hb103)
    have z0_w103 : w.heap.size < w103.heap.size := Nat.lt_of_lt_of_le z0_w102 hb103.size
    have B_w103 := bt B_w102 hb103
    clear X_w102 R_w102 z0_w102 B_w102 hb103
    go_wp2_with fail
    go_ret
    exact ⟨rfl, bt B2.out B_w103⟩
  · have hok := ok_segs ho
    have hfit := Lib.hid (ok_fit ho)
    have h8 := Lib.hid (ok_small8 ho)
    obtain ⟨r, hr9⟩ : ∃ r, m.parts = r := ⟨_, rfl⟩
    have hrb : 0 ≤ r ∧ r ≤ 8 := by have := parts_le m.pairs m.n; have := h8.out; rw [← hr9]; unfold L.parts; omega
    replace hr9 := Lib.hid hr9
    replace ho := Lib.hid ho
    have h1s : 1 ≤ m.segs := hok.1
    have h8s : m.segs ≤ 8 := hok.2.1
    have hnseg := Lib.hid hok.2.2
    replace hok := Lib.hid hok
    have o_X_0 := X2.out.c (i := 0) rfl
    have o_X_1 := X2.out.c (i := 1) rfl
    have o_X_2 := X2.out.c (i := 2) rfl
    go_wp2_with fail
    clear o_X_0 o_X_1 o_X_2
    go_at_call 12
    (with_reducible refine (o_right R2.out hsm.out ho.out).mono ?_)
    rintro e w201 ⟨rfl, hb201⟩
    have X_w201 := Lib.hid (X2.out.below hb201)
    have R_w201 := Lib.hid (R2.out.below hb201)
    have z0_w201 : w.heap.size < w201.heap.size := Nat.lt_of_lt_of_le z2 hb201.size
    clear X2 R2 z2
    have ta := tmod_lt a0 m.segs (by omega)
    have tb := tmod_lt b0 m.segs (by omega)
    go_upto_region 5 with fail
    have K_X_0 := cell_regrown (X_w201.out.c (i := 0) rfl)
    have K_X_1 := cell_regrown (X_w201.out.c (i := 1) rfl)
    have K_X_2 := cell_regrown (X_w201.out.c (i := 2) rfl)
    refine wp_region_quiet_below (by kernel_rfl) (by kernel_rfl) ?_
    repeat (first | go_big_quiet_step (fail) | quiet_step (fail))
    refine wpQuiet_nil ?_
    intro _ hw'
    obtain ⟨⟨dq, osq⟩, hw''⟩ := hw'
    subst hw''
    have hqw202 := below_regrown w201 dq osq
    clear K_X_0 K_X_1 K_X_2
    generalize Go.Sort.grow (redrawn w201 dq) osq = w202 at *
    have X_w202 := Lib.hid (X_w201.out.below hqw202)
    have R_w202 := Lib.hid (R_w201.out.below hqw202)
    have z0_w202 : w.heap.size < w202.heap.size := Nat.lt_of_lt_of_le z0_w201 hqw202.size
    have B_w202 := bt hb201 hqw202
    clear X_w201 R_w201 z0_w201 hb201 hqw202
    have ma : 0 ≤ (a0.tmod m.segs + m.segs) % m.segs ∧ (a0.tmod m.segs + m.segs) % m.segs < m.segs := ⟨Int.emod_nonneg _ (by omega), Int.emod_lt_of_pos _ (by omega)⟩
    have mb : 0 ≤ (b0.tmod m.segs + m.segs) % m.segs ∧ (b0.tmod m.segs + m.segs) % m.segs < m.segs := ⟨Int.emod_nonneg _ (by omega), Int.emod_lt_of_pos _ (by omega)⟩
    generalize (a0.tmod m.segs + m.segs) % m.segs = ai at *
    generalize (b0.tmod m.segs + m.segs) % m.segs = bi at *
    obtain ⟨a, ha9⟩ : ∃ a : Nat, ai = (a : Int) := ⟨ai.toNat, by omega⟩
    obtain ⟨b, hb9⟩ : ∃ b : Nat, bi = (b : Int) := ⟨bi.toNat, by omega⟩
    subst ha9; subst hb9
    have han := Lib.hid (show a < m.n by have := hnseg.out; omega)
    have hbn := Lib.hid (show b < m.n by have := hnseg.out; omega)
    clear ta tb
    replace ma := Lib.hid ma
    replace mb := Lib.hid mb
    have o_X_0 := X_w202.out.c (i := 0) rfl
    have o_X_1 := X_w202.out.c (i := 1) rfl
    have o_X_2 := X_w202.out.c (i := 2) rfl
    go_wp2_with fail
    clear o_X_0 o_X_1 o_X_2
    go_at_call 9
    (with_reducible refine (o_part_ok R_w202.out hsm.out ho.out han.out).mono ?_)
    rintro e w203 ⟨AN, cN, rfl, rN, hb203⟩
    have X_w203 := Lib.hid (X_w202.out.below hb203)
    have R_w203 := Lib.hid (R_w202.out.below hb203)
    have N_w203 := Lib.hid (rN)
    have z0_w203 : w.heap.size < w203.heap.size := Nat.lt_of_lt_of_le z0_w202 hb203.size
    have B_w203 := bt B_w202 hb203
    clear X_w202 R_w202 z0_w202 B_w202 hb203
    have o_X_0 := X_w203.out.c (i := 0) rfl
    have o_X_1 := X_w203.out.c (i := 1) rfl
    have o_X_2 := X_w203.out.c (i := 2) rfl
    go_wp2_with fail
    clear o_X_0 o_X_1 o_X_2
    go_at_call 9
    (with_reducible refine (o_part_ok R_w203.out hsm.out ho.out hbn.out).mono ?_)
    rintro e w204 ⟨AQ, cQ, rfl, rQ, hb204⟩
    have X_w204 := Lib.hid (X_w203.out.below hb204)
    have R_w204 := Lib.hid (R_w203.out.below hb204)
    have N_w204 := Lib.hid (N_w203.out.below hb204)
    have Q_w204 := Lib.hid (rQ)
    have z0_w204 : w.heap.size < w204.heap.size := Nat.lt_of_lt_of_le z0_w203 hb204.size
    have B_w204 := bt B_w203 hb204
    clear X_w203 R_w203 N_w203 z0_w203 B_w203 hb204
    have o_X_0 := X_w204.out.c (i := 0) rfl
    have o_X_1 := X_w204.out.c (i := 1) rfl
    have o_X_2 := X_w204.out.c (i := 2) rfl
    go_wp2_with fail
    clear o_X_0 o_X_1 o_X_2
    go_at_call 10
    (with_reducible refine (o_parts_ok R_w204.out hsm.out ho.out hr9.out).mono ?_)
    rintro e w205 ⟨rfl, hb205⟩
    have X_w205 := Lib.hid (X_w204.out.below hb205)
    have R_w205 := Lib.hid (R_w204.out.below hb205)
    have N_w205 := Lib.hid (N_w204.out.below hb205)
    have Q_w205 := Lib.hid (Q_w204.out.below hb205)
    have z0_w205 : w.heap.size < w205.heap.size := Nat.lt_of_lt_of_le z0_w204 hb205.size
    have B_w205 := bt B_w204 hb205
    clear X_w204 R_w204 N_w204 Q_w204 z0_w204 B_w204 hb205
    have hxa := Lib.hid (show hasI (m.part (a : Int)) a = true by rw [has_part (by omega) (by have := han.out; omega)]; simp)
    have hyb := Lib.hid (show hasI (m.part (b : Int)) b = true by rw [has_part (by omega) (by have := hbn.out; omega)]; simp)
    obtain ⟨u, hu⟩ : ∃ u, decide (lab m.pairs (b : Int) = lab m.pairs a) = u := ⟨_, rfl⟩
    have hxb := Lib.hid (show hasI (m.part (a : Int)) b = u by rw [has_part (by omega) (by have := hbn.out; omega)]; exact hu)
    have hsame := Lib.hid (show decide (m.part (a : Int) = m.part b) = u by
      rw [← hu, Bool.eq_iff_iff, decide_eq_true_eq, decide_eq_true_eq]
      constructor
      · intro h
        have := hxa.out
        rw [h, has_true, mem_part] at this
        exact this.2.symm
      · intro h; exact part_same h.symm)
    have hoff := Lib.hid (show u = false → ∀ s ∈ m.part (a : Int), hasI (m.part (b : Int)) s = false from fun h s hs => by
      rw [has_false, mem_part]
      rintro ⟨_, h2⟩
      have := (mem_part.1 hs).2
      rw [← hu, decide_eq_false_iff_not] at h
      exact h (by rw [← h2, this]))
    have hon := Lib.hid (show u = false → ∀ p ∈ m.plans, joins p (a : Int) = true → joins p (b : Int) = false from fun h p hp h1 => by
      rw [← hu, decide_eq_false_iff_not] at h
      cases h2 : joins p (b : Int) with
      | false => rfl
      | true => exact absurd (lab_ups m p hp _ (joins_iff.1 h2) _ (joins_iff.1 h1)) h)
    replace hu := Lib.hid hu
    have hpl := Lib.hid (part_len m (a : Int))
    have hql := Lib.hid (part_len m (b : Int))
    have hlx : (m.part (a : Int)).length ≤ 8 := by have := hpl.out; have := h8.out; omega
    have hly : (m.part (b : Int)).length ≤ 8 := by have := hql.out; have := h8.out; omega
    have o_X_0 := X_w205.out.c (i := 0) rfl
    have o_X_1 := X_w205.out.c (i := 1) rfl
    have o_X_2 := X_w205.out.c (i := 2) rfl
    go_wp2_with fail
    clear o_X_0 o_X_1 o_X_2
    go_at_call 23
    (with_reducible refine (has_row N_w205.out (a : Int) hxa.out (by omega)).mono ?_)
    rintro e w206 ⟨rfl, hb206⟩
    have X_w206 := Lib.hid (X_w205.out.below hb206)
    have R_w206 := Lib.hid (R_w205.out.below hb206)
    have N_w206 := Lib.hid (N_w205.out.below hb206)
    have Q_w206 := Lib.hid (Q_w205.out.below hb206)
    have z0_w206 : w.heap.size < w206.heap.size := Nat.lt_of_lt_of_le z0_w205 hb206.size
    have B_w206 := bt B_w205 hb206
    clear X_w205 R_w205 N_w205 Q_w205 z0_w205 B_w205 hb206
    have o_X_0 := X_w206.out.c (i := 0) rfl
    have o_X_1 := X_w206.out.c (i := 1) rfl
    have o_X_2 := X_w206.out.c (i := 2) rfl
    go_wp2_with fail
    clear o_X_0 o_X_1 o_X_2
    go_at_call 23
    (with_reducible refine (has_row Q_w206.out (b : Int) hyb.out (by omega)).mono ?_)
    rintro e w207 ⟨rfl, hb207⟩
    have X_w207 := Lib.hid (X_w206.out.below hb207)
    have R_w207 := Lib.hid (R_w206.out.below hb207)
    have N_w207 := Lib.hid (N_w206.out.below hb207)
    have Q_w207 := Lib.hid (Q_w206.out.below hb207)
    have z0_w207 : w.heap.size < w207.heap.size := Nat.lt_of_lt_of_le z0_w206 hb207.size
    have B_w207 := bt B_w206 hb207
    clear X_w206 R_w206 N_w206 Q_w206 z0_w206 B_w206 hb207
    have o_X_0 := X_w207.out.c (i := 0) rfl
    have o_X_1 := X_w207.out.c (i := 1) rfl
    have o_X_2 := X_w207.out.c (i := 2) rfl
    go_wp2_with fail
    clear o_X_0 o_X_1 o_X_2
    go_at_call 14
    (with_reducible refine (alive_is _).mono ?_)
    rintro e w208 ⟨rfl, hb208⟩
    have X_w208 := Lib.hid (X_w207.out.below hb208)
    have R_w208 := Lib.hid (R_w207.out.below hb208)
    have N_w208 := Lib.hid (N_w207.out.below hb208)
    have Q_w208 := Lib.hid (Q_w207.out.below hb208)
    have z0_w208 : w.heap.size < w208.heap.size := Nat.lt_of_lt_of_le z0_w207 hb208.size
    have B_w208 := bt B_w207 hb208
    clear X_w207 R_w207 N_w207 Q_w207 z0_w207 B_w207 hb208
    have o_X_0 := X_w208.out.c (i := 0) rfl
    have o_X_1 := X_w208.out.c (i := 1) rfl
    have o_X_2 := X_w208.out.c (i := 2) rfl
    go_wp2_with fail
    clear o_X_0 o_X_1 o_X_2
    go_at_call 23
    (with_reducible refine (has_row N_w208.out (b : Int) hxb.out (by omega)).mono ?_)
    rintro e w209 ⟨rfl, hb209⟩
    have X_w209 := Lib.hid (X_w208.out.below hb209)
    have R_w209 := Lib.hid (R_w208.out.below hb209)
    have N_w209 := Lib.hid (N_w208.out.below hb209)
    have Q_w209 := Lib.hid (Q_w208.out.below hb209)
    have z0_w209 : w.heap.size < w209.heap.size := Nat.lt_of_lt_of_le z0_w208 hb209.size
    have B_w209 := bt B_w208 hb209
    clear X_w208 R_w208 N_w208 Q_w208 z0_w208 B_w208 hb209
    have o_X_0 := X_w209.out.c (i := 0) rfl
    have o_X_1 := X_w209.out.c (i := 1) rfl
    have o_X_2 := X_w209.out.c (i := 2) rfl
    go_wp2_with fail
    clear o_X_0 o_X_1 o_X_2
    go_at_call 21
    (with_reducible refine (r_same N_w209.out Q_w209.out (by omega) hsame.out).mono ?_)
    rintro e w210 ⟨rfl, hb210⟩
    have X_w210 := Lib.hid (X_w209.out.below hb210)
    have R_w210 := Lib.hid (R_w209.out.below hb210)
    have N_w210 := Lib.hid (N_w209.out.below hb210)
    have Q_w210 := Lib.hid (Q_w209.out.below hb210)
    have z0_w210 : w.heap.size < w210.heap.size := Nat.lt_of_lt_of_le z0_w209 hb210.size
    have B_w210 := bt B_w209 hb210
    clear X_w209 R_w209 N_w209 Q_w209 z0_w209 B_w209 hb210
    obtain ⟨x, hx9⟩ : ∃ x, m.part (a : Int) = x := ⟨_, rfl⟩
    obtain ⟨y, hy9⟩ : ∃ y, m.part (b : Int) = y := ⟨_, rfl⟩
    rw [hx9] at hoff hxb hlx ⊢
    rw [hy9] at hoff hly ⊢
    rw [hx9] at N_w210
    rw [hy9] at Q_w210
    replace hx9 := Lib.hid hx9
    replace hy9 := Lib.hid hy9
    clear hxa hyb hsame hpl hql
    have huu : (u != u) = false := by cases u <;> rfl
    go_wp2_with fail
    have hBA := Lib.hid B_w210
    clear B_w210 z0_w210 huu
    go_loopw [115] (fun i wr => ∃ k : Nat, k ≤ x.length ∧ i = .int .i64 k ∧ Below w210.heap.size w210 wr) (fun i _ => x.length - (intOf i).toNat)
    case atStart => exact ⟨0, by omega, rfl, Below.refl _ _⟩
    case round =>
      obtain ⟨k, hk, rfl, hb⟩ := hrel
      have hNr := Lib.hid (N_w210.out.below hb)
      have hQr := Lib.hid (Q_w210.out.below hb)
      by_cases hkn : k < x.length
      · have hkl : (k : Int) < (x.length : Int) := by omega
        obtain ⟨s, hs⟩ : ∃ s, x[k]? = some s := ⟨_, List.getElem?_eq_getElem hkn⟩
        obtain ⟨b1, o1, rfl, hb1, y0⟩ := hNr.out.iat hs
        have hsm9 := List.mem_of_getElem? hs
        have hHx := Lib.hid (fun W (hW : Below wr.heap.size wr W) => has_row (hNr.out.below hW) (b : Int) hxb.out (by omega))
        replace hs := Lib.hid hs
        have hb' := Lib.hid hb
        cases u
        · have hHy := Lib.hid (fun W (hW : Below wr.heap.size wr W) => has_row (hQr.out.below hW) s (hoff.out rfl s hsm9) (by omega))
          clear hb
          go_wp2_with fail
          go_at_call 23
          (with_reducible refine (hHx.out _ (Below.refl _ _)).mono ?_)
          rintro e w5 ⟨rfl, hb5⟩
          have hHy2 := Lib.hid (hHy.out w5 hb5)
          have hb6 := Lib.hid (bt hb'.out hb5)
          clear hb5 y0 hb1
          go_wp2_with fail
          go_at_call 23
          (with_reducible refine hHy2.out.mono ?_)
          rintro e w6 ⟨rfl, hb7⟩
          have hb8 := Lib.hid (bt hb6.out hb7)
          clear hb7
          go_wp2_with fail
          go_roundw
          case rel => exact ⟨k + 1, by omega, by go_num, hb8.out⟩
          case measure => simp [intOf]; omega
        · clear hb
          go_wp2_with fail
          go_at_call 23
          (with_reducible refine (hHx.out _ (Below.refl _ _)).mono ?_)
          rintro e w5 ⟨rfl, hb5⟩
          have hb6 := Lib.hid (bt hb'.out hb5)
          clear hb5 y0 hb1
          go_wp2_with fail
          go_roundw
          case rel => exact ⟨k + 1, by omega, by go_num, hb6.out⟩
          case measure => simp [intOf]; omega
      · obtain rfl : k = x.length := by omega
        have X5 := Lib.hid (X_w210.out.below hb)
        have R5 := Lib.hid (R_w210.out.below hb)
        have B5 := Lib.hid (bt hBA.out hb)
        clear hb hoff
        have x0 := X5.out.c (i := 0) rfl
        have zz := X5.out.lt
        obtain ⟨wB, hwB⟩ : ∃ W, W = wr := ⟨_, rfl⟩
        subst hwB
        go_wp2_with fail
        clear x0 zz
        go_loopw [17, 131] (fun v i wr => ∃ k : Nat, k ≤ m.n ∧ i = .int .i64 k ∧ v = .int .i64 (cnt (fun s => decide (lab m.pairs s = s)) k : Nat) ∧ Below wB.heap.size wB wr) (fun _ i _ => m.n - (intOf i).toNat)
        case atStart => exact ⟨0, by omega, rfl, rfl, Below.refl _ _⟩
        case round =>
          obtain ⟨k, hk, rfl, rfl, hb⟩ := hrel
          have hsn := hnseg.out
          have X6 := Lib.hid (X5.out.below hb)
          have R6 := Lib.hid (R5.out.below hb)
          by_cases hkn : k < m.n
          · have hkl : (k : Int) < m.segs := by omega
            have hcl := cnt_le (fun s => decide (lab m.pairs s = s)) k
            have hnx : cnt (fun s => decide (lab m.pairs s = s)) (k + 1) = cnt (fun s => decide (lab m.pairs s = s)) k + if decide (lab m.pairs k = k) = true then 1 else 0 := rfl
            obtain ⟨q, hq⟩ : ∃ q, cnt (fun s => decide (lab m.pairs s = s)) k = q := ⟨_, rfl⟩
            rw [hq] at hnx hcl ⊢
            have hhd := part_head hfit.out (s := (k : Int)) (by omega) (by omega)
            have hP := Lib.hid (o_part_ok R6.out hsm.out ho.out hkn)
            obtain ⟨v, hv⟩ : ∃ v, lab m.pairs (k : Int) = v := ⟨_, rfl⟩
            rw [hv] at hnx hhd
            replace hv := Lib.hid hv
            replace hq := Lib.hid hq
            have hlen : 0 < (m.part k).length := by
              cases hp : m.part k with
              | nil => rw [hp] at hhd; simp at hhd
              | cons a b => simp
            obtain ⟨z, hz⟩ : ∃ z, m.part (k : Int) = z := ⟨_, rfl⟩
            rw [hz] at hhd hlen hP
            have hlen2 : (0 : Int) < (z.length : Int) := by omega
            have hlen3 : ((z.length : Int) == 0) = false := by rw [beq_eq_false_iff_ne]; omega
            replace hz := Lib.hid hz
            have b8 := Lib.hid hb
            have x0 := X6.out.c (i := 0) rfl
            have x1 := X6.out.c (i := 1) rfl
            have x2 := X6.out.c (i := 2) rfl
            have zz := X6.out.lt
            clear hb
            replace hsn := Lib.hid hsn
            go_wp2_with fail
            go_at_call 9
            (with_reducible refine hP.out.mono ?_)
            rintro e w7 ⟨A6, c6, rfl, R7, hb2⟩
            obtain ⟨b9, o9, rfl, hlt9, y0⟩ := R7.iat hhd
            rw [Nat.add_zero] at y0
            have b2 := Lib.hid (bt b8.out hb2)
            replace hhd := Lib.hid hhd
            clear hb2 x0 x1 x2 zz R7
            by_cases huk : v = k
            · rw [if_pos (by simpa using huk)] at hnx
              have hqe : (v == (k : Int)) = true := by simpa using huk
              replace hnx := Lib.hid hnx
              replace huk := Lib.hid huk
              go_wp2_with fail
              go_roundw
              case rel => exact ⟨k + 1, by omega, by go_num, by rw [hnx.out]; go_num, b2.out⟩
              case measure => simp [intOf]; omega
            · rw [if_neg (by simpa using huk)] at hnx
              have hqe : (v == (k : Int)) = false := by simpa using huk
              replace hnx := Lib.hid hnx
              replace huk := Lib.hid huk
              go_wp2_with fail
              go_roundw
              case rel => exact ⟨k + 1, by omega, by go_num, by rw [hnx.out]; rfl, b2.out⟩
              case measure => simp [intOf]; omega
          · obtain rfl : k = m.n := by omega
            have hkl : ¬ ((m.n : Int) < m.segs) := by omega
            have hce : ((cnt (fun s => decide (lab m.pairs s = s)) m.n : Nat) : Int) = r := hr9.out
            rw [hce]
            have N6 := Lib.hid (hNr.out.below hb)
            have B6 := Lib.hid (bt B5.out hb)
            have x1 := X6.out.c (i := 1) rfl
            have zz := X6.out.lt
            clear hb
            obtain ⟨wC, hwC⟩ : ∃ W, W = wr := ⟨_, rfl⟩
            subst hwC
            go_wp2_with fail
            clear x1 zz hkl
            replace hsn := Lib.hid hsn
            replace hce := Lib.hid hce
            go_loopw [158] (fun i wr => ∃ k : Nat, k ≤ m.plans.length ∧ i = .int .i64 k ∧ Below wC.heap.size wC wr) (fun i _ => m.plans.length - (intOf i).toNat)
            case atStart => exact ⟨0, by omega, rfl, Below.refl _ _⟩
            case round =>
              obtain ⟨k, hk, rfl, hb⟩ := hrel
              have hl8 := hsm.out.plans
              have N7 := Lib.hid (N6.out.below hb)
              by_cases hkn : k < m.plans.length
              · have hkl : (k : Int) < (m.plans.length : Int) := by omega
                have HP := Lib.hid R6.out.plans

                obtain ⟨p, hp⟩ : ∃ p, m.plans[k]? = some p := ⟨_, List.getElem?_eq_getElem hkn⟩
                obtain ⟨bS8, oS8, A8, c8, hAS8, hbS8, q8_0, q8_1, hrow8⟩ := RowP.at_ (HP.out.below hb) hp
                subst hAS8
                obtain ⟨w8, hw8⟩ : ∃ W, W = wr.alloc (.cells #[.int .i64 p.id, .slice A8 p.ports.length c8] 49) := ⟨_, rfl⟩
                have bb8 : Below wr.heap.size wr w8 := by rw [hw8]; exact (Below.refl _ _).alloc (Nat.le_refl _) _
                have b8 := Lib.hid (bt hb bb8)
                have X8 := Lib.hid (show Bx w8 wr.heap.size 49 #[.int .i64 p.id, .slice A8 p.ports.length c8] by rw [hw8]; exact Bx.new _ _ _ rfl)
                have R8 := Lib.hid (hrow8.below bb8)
                clear hrow8
                have hpx := hsm.out.ports p (List.mem_of_getElem? hp)
                have hpm := List.mem_of_getElem? hp
                have N8 := Lib.hid (N7.out.below bb8)
                replace hp := Lib.hid hp
                clear hb bb8
                go_upto_region 32 with fail
                rw [← hw8]
                clear hw8 q8_0 q8_1 hbS8
                have o8_0 := X8.out.c (i := 0) rfl
                have o8_1 := X8.out.c (i := 1) rfl
                have zz8 := X8.out.lt
                obtain ⟨ja, hja⟩ : ∃ j, joins p (a : Int) = j := ⟨_, rfl⟩
                obtain ⟨jb, hjb⟩ : ∃ j, joins p (b : Int) = j := ⟨_, rfl⟩
                have hCa := Lib.hid (on_is X8.out R8.out (by omega) hja)
                have hCb := Lib.hid (fun W (hW : Below w8.heap.size w8 W) => on_is (X8.out.below hW) (R8.out.below hW) (by omega) hjb)
                have hHx := Lib.hid (fun W (hW : Below w8.heap.size w8 W) => has_row (N8.out.below hW) (b : Int) hxb.out (by omega))
                have hno := Lib.hid (show u = false → ja = true → jb = false from fun h1 h2 => by rw [← hjb]; exact hon.out h1 p hpm (by rw [hja]; exact h2))
                replace hja := Lib.hid hja
                replace hjb := Lib.hid hjb
                clear o8_0 o8_1
                cases ja
                · go_wp2_with fail
                  go_at_call 24
                  (with_reducible refine hCa.out.mono ?_)
                  rintro e w10 ⟨rfl, hb10⟩
                  have b10 := Lib.hid (bt b8.out hb10)
                  clear hb10 zz8
                  go_wp2_with fail
                  go_roundw
                  case rel => exact ⟨k + 1, by omega, by go_num, b10.out⟩
                  case measure => simp [intOf]; omega
                · cases jb
                  · go_wp2_with fail
                    go_at_call 24
                    (with_reducible refine hCa.out.mono ?_)
                    rintro e w10 ⟨rfl, hb10⟩
                    have b10 := Lib.hid (bt b8.out hb10)
                    have hC2 := Lib.hid (hCb.out w10 hb10)
                    clear hb10 zz8
                    go_wp2_with fail
                    go_at_call 24
                    (with_reducible refine hC2.out.mono ?_)
                    rintro e w11 ⟨rfl, hb11⟩
                    have b11 := Lib.hid (bt b10.out hb11)
                    clear hb11
                    go_wp2_with fail
                    go_roundw
                    case rel => exact ⟨k + 1, by omega, by go_num, b11.out⟩
                    case measure => simp [intOf]; omega
                  · cases u
                    · exact absurd (hno.out rfl rfl) (by simp)
                    · go_wp2_with fail
                      go_at_call 24
                      (with_reducible refine hCa.out.mono ?_)
                      rintro e w10 ⟨rfl, hb10⟩
                      have b10 := Lib.hid (bt b8.out hb10)
                      have hC2 := Lib.hid (hCb.out w10 hb10)
                      have hC3 := Lib.hid (fun W (hW : Below w10.heap.size w10 W) => hHx.out W (bt hb10 hW))
                      clear hb10 zz8
                      go_wp2_with fail
                      go_at_call 24
                      (with_reducible refine hC2.out.mono ?_)
                      rintro e w11 ⟨rfl, hb11⟩
                      have b11 := Lib.hid (bt b10.out hb11)
                      have hC4 := Lib.hid (hC3.out w11 hb11)
                      clear hb11
                      go_wp2_with fail
                      go_at_call 23
                      (with_reducible refine hC4.out.mono ?_)
                      rintro e w12 ⟨rfl, hb12⟩
                      have b12 := Lib.hid (bt b11.out hb12)
                      clear hb12
                      go_wp2_with fail
                      go_roundw
                      case rel => exact ⟨k + 1, by omega, by go_num, b12.out⟩
                      case measure => simp [intOf]; omega
              · obtain rfl : k = m.plans.length := by omega
                have Bf := Lib.hid (bt (bt B2.out B6.out) hb)
                clear hb
                go_wp2_with fail
                go_ret
                exact ⟨rfl, Bf.out⟩

theorem parts_go (v : Value) (a b : Int) {w : World} (hv : InLan w v) (_ha : (Lit.int .i64 a).wf = true) (_hb : (Lit.int .i64 b).wf = true) : Calls Try.prog 4 #[v, .int .i64 a, .int .i64 b] w (True1 w) := by
  obtain ⟨l, A, c, B, d, rfl, hr⟩ := hv
  exact parts_law hr a b
end Go.Proofs.Ytoaabdejbipamaa.LanP
