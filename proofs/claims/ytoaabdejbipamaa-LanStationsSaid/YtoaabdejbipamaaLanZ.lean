/-
  LanStations.
-/
import Derived.Test.YtoaabdejbipamaaLanM
import Derived.BigRegion
namespace Go.Proofs.Ytoaabdejbipamaa.LanP
open Go.RowKit Go.Sort Go.Proofs.Ytoaabdejbipamaa.SliceP Go.Proofs.Ytoaabdejbipamaa.BoxP
open Go.Proofs.Ytoaabdejbipamaa.IntP (RowI SlI OwnI)
open Go.Proofs.Ytoaabdejbipamaa.BoolP (RowB SlB OwnB)
open Go.Proofs.Ytoaabdejbipamaa.MacP (classI class_yes class_no ref_right_no ref_right_yes ref_class)
open Go.Proofs.Ytoaabdejbipamaa.LruP (hasI placeI has_more has_hit place_hit place_none place_geq has_true has_false ref_has_is)
set_option linter.unusedVariables false
set_option maxRecDepth 100000
theorem twins_ne {l : List Int} (h : twins l = false) {i j : Nat} {x y : Int} (hij : i < j) (hi : l[i]? = some x) (hj : l[j]? = some y) : x ≠ y := fun e => by
  unfold twins at h
  rw [List.any_eq_false] at h
  have := h j (List.mem_range.2 (List.getElem?_eq_some_iff.1 hj).1)
  refine this ?_
  unfold twin
  rw [List.any_eq_true]
  refine ⟨x, List.mem_of_getElem? (i := i) (by rw [List.getElem?_take, if_pos hij]; exact hi), ?_⟩
  rw [List.getD_eq_getElem?_getD, hj, e]; simp
def L.move (l : L) (h : Nat) (s : Int) : L := ⟨l.segs, l.plans, l.hosts.set h ((l.hosts.getD h (0, 0)).1, s)⟩
def L.bare (l : L) : L := ⟨l.segs, l.plans, []⟩
theorem bare_ok {l : L} (h : l.ok = true) : l.bare.ok = true := by
  rw [ok_iff] at h ⊢
  obtain ⟨a, b, c, d, e, f, g, i⟩ := h
  exact ⟨a, b, c, by unfold L.bare; simp, e, rfl, g, rfl⟩
theorem hosts_at {l : List Hs} {h : Nat} (hh : h < l.length) : l[h]? = some (l.getD h (0, 0)) := by rw [List.getD_eq_getElem?_getD, List.getElem?_eq_getElem hh]; rfl
theorem move_macs (l : L) {h : Nat} (hh : h < l.hosts.length) (s : Int) : (l.move h s).macs = l.macs := by
  unfold L.macs L.move
  simp only
  rw [List.map_set]
  refine List.ext_getElem (by simp) fun i h1 h2 => ?_
  rw [List.getElem_set]
  split
  · rename_i e
    subst e
    have := hosts_at hh
    rw [List.getElem?_eq_getElem hh] at this
    rw [List.getElem_map, Option.some.inj this]
  · rfl
theorem move_ok {l : L} (h : l.ok = true) {k : Nat} (hk : k < l.hosts.length) {s : Int} (h0 : 0 ≤ s) (h1 : s < l.segs) : (l.move k s).ok = true := by
  rw [ok_iff] at h ⊢
  obtain ⟨a, b, c, d, e, f, g, i⟩ := h
  refine ⟨a, b, c, by unfold L.move; rw [List.length_set]; exact d, e, by rw [move_macs l hk]; exact f, g, ?_⟩
  rw [List.all_eq_true] at i ⊢
  intro x hx
  rcases List.mem_or_eq_of_mem_set hx with hx | rfl
  · exact i x hx
  · have := i _ (List.mem_of_getElem? (hosts_at hk))
    unfold hostB at this ⊢
    rw [Bool.and_eq_true] at this
    have hs : (l.move k s).segs = l.segs := rfl
    rw [this.1, hs]; simp [h0, h1]
theorem has_now {l : L} {k : Nat} (hk : k < l.hosts.length) (s : Int) : (hostsOf (l.move k s).hosts s).any (fun x => x.1 == (l.hosts.getD k (0, 0)).1) = true := by
  rw [List.any_eq_true]
  refine ⟨((l.hosts.getD k (0, 0)).1, s), ?_, by simp⟩
  unfold hostsOf
  rw [List.mem_filter]
  exact ⟨List.mem_of_getElem? (i := k) (by show (l.hosts.set k _)[k]? = _; rw [List.getElem?_set_self hk]), by simp⟩
theorem has_old {l : L} (h : l.ok = true) {k : Nat} (hk : k < l.hosts.length) (s : Int) : (hostsOf (l.move k s).hosts (l.hosts.getD k (0, 0)).2).any (fun x => x.1 == (l.hosts.getD k (0, 0)).1) = (s == (l.hosts.getD k (0, 0)).2) := by
  obtain ⟨x, hx⟩ : ∃ x, l.hosts.getD k (0, 0) = x := ⟨_, rfl⟩
  have hat := hosts_at hk
  rw [hx] at hat
  by_cases hs : s = x.2
  · have := has_now hk s
    rw [hx] at this ⊢
    rw [hs] at this ⊢
    rw [this]; simp
  · rw [hx, show (s == x.2) = false by simpa using hs, List.any_eq_false]
    intro y hy
    unfold hostsOf at hy
    rw [List.mem_filter] at hy
    obtain ⟨hy1, hy2⟩ := hy
    rw [beq_iff_eq] at hy2
    intro he
    rw [beq_iff_eq] at he
    obtain ⟨i, hi, hyi⟩ := List.mem_iff_getElem.1 hy1
    have hyi2 : (l.move k s).hosts[i]? = some y := by rw [List.getElem?_eq_getElem hi, hyi]
    have hset : (l.move k s).hosts = l.hosts.set k (x.1, s) := by unfold L.move; rw [hx]
    rw [hset, List.getElem?_set] at hyi2
    split at hyi2
    · rw [← Option.some.inj hyi2] at hy2; exact hs hy2
    · rename_i hne
      have htw := (ok_iff.1 h).2.2.2.2.2.1
      have m1 : l.macs[i]? = some y.1 := by unfold L.macs; rw [List.getElem?_map, hyi2]; rfl
      have m2 : l.macs[k]? = some x.1 := by unfold L.macs; rw [List.getElem?_map, hat]; rfl
      rcases Nat.lt_or_gt_of_ne hne with h1 | h1
      · exact twins_ne htw h1 m2 m1 he.symm
      · exact twins_ne htw h1 m1 m2 he
theorem grown_set {w1 w : World} {row : Option Nat} (h : w1.grownBy w row) {b : Nat} (hb : w1.heap.size ≤ b) (o : Nat) (v : Value) : w1.grownBy (w.setCell ⟨b, o, none⟩ v) row :=
  ⟨h.os, h.tape, h.output, by simpa using h.size, fun k hk hne => ((setCell_grown w b o v).block k (by have := h.size; omega) (by intro e; injection e; omega)).trans (h.block k hk hne)⟩
theorem grown_at {w1 w w' : World} {row row2 : Option Nat} (h : w1.grownBy w row) (g : w.grownBy w' row2) (hn : ∀ k, row2 = some k → w1.heap.size ≤ k) : w1.grownBy w' row :=
  ⟨g.os.trans h.os, g.tape.trans h.tape, g.output.trans h.output, Nat.le_trans h.size g.size, fun k hk hne => (g.block k (by have := h.size; omega) (fun e => by have := hn k e.symm; omega)).trans (h.block k hk hne)⟩
theorem lv_move (m : L) (h : Nat) (s : Int) (A : Option Addr) (c : Nat) (B : Option Addr) (d : Nat) : lv (m.move h s) A c B d = .agg #[.int .i64 m.segs, .slice A m.plans.length c, .slice B m.hosts.length d] := by
  unfold lv lc
  rw [show (m.move h s).hosts.length = m.hosts.length by unfold L.move; rw [List.length_set]]
  rfl
theorem move_small {l : L} (h : Small l) (k : Nat) (s : Int) : Small (l.move k s) := ⟨h.plans, h.ports, by unfold L.move; rw [List.length_set]; exact h.hosts⟩
theorem bare_small {l : L} (h : Small l) : Small l.bare := ⟨h.plans, h.ports, by unfold L.bare; simp⟩
set_option maxHeartbeats 8000000 in
theorem st_is {A : Option Addr} {c : Nat} {l : List Hs} {w : World} {x : Hs} {g : Nat} (hX : Bx w g 55 #[.int .i64 x.1, .int .i64 x.2]) (hr : Row hc 2 w A l.length c l) (hl : l.length ≤ 1000) {b : Bool} (he : l.any (fun y => y.1 == x.1) = b) :
    Calls Try.prog 25 #[.slice A l.length c, .pointer (some ⟨g, 0, none⟩)] w fun e w' => e = .returned (.bool b) ∧ Below w.heap.size w w' := by
  have H := Lib.hid hr
  clear hr
  have XX := Lib.hid hX
  clear hX
  replace he := Lib.hid he
  go_enter Try.func25, Try.ntmps25
  go_wp2_with fail
  go_loopw [8] (fun i wr => ∃ k : Nat, k ≤ l.length ∧ i = .int .i64 k ∧ (l.take k).any (fun y => y.1 == x.1) = false ∧ Below w.heap.size w wr) (fun i _ => l.length - (intOf i).toNat)
  case atStart => exact ⟨0, by omega, rfl, rfl, Below.refl _ _⟩
  case round =>
    obtain ⟨k, hk, rfl, hno, hb⟩ := hrel
    by_cases hkn : k < l.length
    · have hkl : (k : Int) < (l.length : Int) := by omega
      obtain ⟨y, hy⟩ : ∃ y, l[k]? = some y := ⟨_, List.getElem?_eq_getElem hkn⟩
      obtain ⟨bS8, oS8, hAS8, hbS8, q8_0, q8_1⟩ := Row.hat (H.out.below hb) hy
      subst hAS8
      obtain ⟨w8, hw8⟩ : ∃ W, W = wr.alloc (.cells #[.int .i64 y.1, .int .i64 y.2] 55) := ⟨_, rfl⟩
      have bb8 : Below wr.heap.size wr w8 := by rw [hw8]; exact (Below.refl _ _).alloc (Nat.le_refl _) _
      have b8 := Lib.hid (bt hb bb8)
      have X8 := Lib.hid (show Bx w8 wr.heap.size 55 #[.int .i64 y.1, .int .i64 y.2] by rw [hw8]; exact Bx.new _ _ _ rfl)
      have hgood := Lib.hid fun h => any_more (f := fun y : Hs => y.1 == x.1) hy hno h
      have hhit := Lib.hid fun h => any_hit (f := fun y : Hs => y.1 == x.1) hy h
      have XW := (XX.out.below hb).below bb8
      have xw0 := XW.c (i := 0) rfl
      have xwz := XW.lt
      clear hno XW
      replace hy := Lib.hid hy
      clear hb bb8
      go_upto_region 4 with fail
      rw [← hw8]
      clear hw8 q8_0 q8_1 hbS8
      have o8_0 := X8.out.c (i := 0) rfl
      have o8_1 := X8.out.c (i := 1) rfl
      have zz8 := X8.out.lt
      cases hq : (y.1 == x.1)
      · have hs2 := Lib.hid (hgood.out hq)
        go_wp2_with fail
        go_roundw
        case rel => exact ⟨k + 1, by omega, by go_num, hs2.out, b8.out⟩
        case measure => simp [intOf]; omega
      · have he2 := Lib.hid (he.out.symm.trans (hhit.out hq))
        clear he
        go_wp2_with fail
        go_ret
        exact ⟨by cases he2.out; rfl, b8.out⟩
    · obtain rfl : k = l.length := by omega
      rw [List.take_length] at hno
      have he2 := Lib.hid (he.out.symm.trans hno)
      replace hb := Lib.hid hb
      clear hno he
      go_wp2_with fail
      go_ret
      exact ⟨by cases he2.out; rfl, hb.out⟩
set_option maxHeartbeats 16000000 in
theorem stations_law {l : L} {A : Option Addr} {c : Nat} {B : Option Addr} {d : Nat} {w : World} (hr : LanR w l A c B d) (h0 s0 : Int) : Calls Try.prog 6 #[lv l A c B d, .int .i64 h0, .int .i64 s0] w (True1 w) := by
  obtain ⟨w0, hw0, X0, R0, B0⟩ := new3 w hr
  have hF := Lib.hid (o_few hr B0)
  have hsm := Lib.hid (few_small l)
  replace X0 := Lib.hid X0
  replace B0 := Lib.hid B0
  clear hr R0
  go_enter Try.func6, Try.ntmps6
  go_upto_region 1 with fail
  rw [← hw0]
  clear hw0
  have x0 := X0.out.c (i := 0) rfl
  have x1 := X0.out.c (i := 1) rfl
  have x2 := X0.out.c (i := 2) rfl
  have zz := X0.out.lt
  go_wp2_with fail
  go_at_call 7
  (with_reducible refine hF.out.mono ?_)
  rintro e w1 ⟨A1, c1, rfl, hb1, hK⟩
  obtain ⟨m, hm⟩ : ∃ m, l.few = m := ⟨_, rfl⟩
  rw [hm] at hK hsm ⊢
  replace hm := Lib.hid hm
  clear x0 x1 x2 zz
  have X1 := Lib.hid (X0.out.below hb1)
  have x0 := X1.out.c (i := 0) rfl
  have x1 := X1.out.c (i := 1) rfl
  have x2 := X1.out.c (i := 2) rfl
  have f0 := X1.out.f 0
  have f1 := X1.out.f 1
  have f2 := X1.out.f 2
  have zz := X1.out.lt
  have B1 := Lib.hid (bt B0.out hb1)
  obtain ⟨w2, hw2⟩ : ∃ W, W = ((w1.setCell ⟨w.heap.size, 0, none⟩ (.int .i64 m.segs)).setCell ⟨w.heap.size, 1, none⟩ (.slice A1 m.plans.length c1)).setCell ⟨w.heap.size, 2, none⟩ (.slice B m.hosts.length d) := ⟨_, rfl⟩
  have X2 := Lib.hid (show Bx w2 w.heap.size 25 #[.int .i64 m.segs, .slice A1 m.plans.length c1, .slice B m.hosts.length d] by rw [hw2]; exact Bx.three X1.out)
  have B2 := Lib.hid (show Below w.heap.size w w2 by rw [hw2]; exact below3 B1.out (Nat.le_refl _) _ _ _)
  have R2 := Lib.hid (hK w.heap.size w2 X0.out.lt (by rw [hw2]; exact ((setCell_grown _ _ _ _).trans (setCell_grown _ _ _ _)).trans (setCell_grown _ _ _ _)) B2.out)
  go_upto_region 2 with fail
  rw [← hw2]
  have z2 := X2.out.lt
  have hK9 := Lib.hid hK
  have hx9 := Lib.hid (show w.heap.size < w0.heap.size ∧ w0.heap.size ≤ w1.heap.size from ⟨X0.out.lt, hb1.size⟩)
  have hg9 := Lib.hid (show w1.grownBy w2 (some w.heap.size) by rw [hw2]; exact ((setCell_grown _ _ _ _).trans (setCell_grown _ _ _ _)).trans (setCell_grown _ _ _ _))
  clear hw2 hb1 hK x0 x1 x2 f0 f1 f2 zz X0 X1 B0 B1 hF
  cases ho : m.ok
  · replace ho := Lib.hid ho
    have o_X_0 := X2.out.c (i := 0) rfl
    have o_X_1 := X2.out.c (i := 1) rfl
    have o_X_2 := X2.out.c (i := 2) rfl
    go_wp2_with fail
    clear o_X_0 o_X_1 o_X_2
    go_at_call 10
    (with_reducible refine (o_parts_no R2.out hsm.out ho.out).mono ?_)
    rintro e w101 ⟨rfl, hb101⟩
    have X_w101 := Lib.hid (X2.out.below hb101)
    have R_w101 := Lib.hid (R2.out.below hb101)
    have z0_w101 : w.heap.size < w101.heap.size := Nat.lt_of_lt_of_le z2 hb101.size
    clear X2 R2 z2
    have o_X_0 := X_w101.out.c (i := 0) rfl
    have o_X_1 := X_w101.out.c (i := 1) rfl
    have o_X_2 := X_w101.out.c (i := 2) rfl
    go_wp2_with fail
    clear o_X_0 o_X_1 o_X_2
    go_at_call 11
    (with_reducible refine (o_loops_no R_w101.out hsm.out ho.out).mono ?_)
    rintro e w102 ⟨rfl, hb102⟩
    have X_w102 := Lib.hid (X_w101.out.below hb102)
    have R_w102 := Lib.hid (R_w101.out.below hb102)
    have z0_w102 : w.heap.size < w102.heap.size := Nat.lt_of_lt_of_le z0_w101 hb102.size
    have B_w102 := bt hb101 hb102
    clear X_w101 R_w101 z0_w101 hb101 hb102
    have o_X_0 := X_w102.out.c (i := 0) rfl
    have o_X_1 := X_w102.out.c (i := 1) rfl
    have o_X_2 := X_w102.out.c (i := 2) rfl
    go_wp2_with fail
    clear o_X_0 o_X_1 o_X_2
    go_at_call 14
    (with_reducible refine (alive_is _).mono ?_)
    rintro e w103 ⟨rfl, hb103⟩
    have X_w103 := Lib.hid (X_w102.out.below hb103)
    have R_w103 := Lib.hid (R_w102.out.below hb103)
    have z0_w103 : w.heap.size < w103.heap.size := Nat.lt_of_lt_of_le z0_w102 hb103.size
    have B_w103 := bt B_w102 hb103
    clear X_w102 R_w102 z0_w102 B_w102 hb103
    go_wp2_with fail
    go_ret
    exact ⟨rfl, bt B2.out B_w103⟩
  · have hok := ok_segs ho
    obtain ⟨r, hr9⟩ : ∃ r, m.parts = r := ⟨_, rfl⟩
    obtain ⟨q, hq9⟩ : ∃ q, m.loops = q := ⟨_, rfl⟩
    have hbo := Lib.hid (bare_ok ho)
    have hbs := Lib.hid (bare_small hsm.out)
    have hbr := Lib.hid (show m.bare.parts = r from hr9)
    have hbq := Lib.hid (show m.bare.loops = q from hq9)
    replace hr9 := Lib.hid hr9
    replace hq9 := Lib.hid hq9
    replace ho := Lib.hid ho
    have h1s : 1 ≤ m.segs := hok.1
    have h8s : m.segs ≤ 8 := hok.2.1
    replace hok := Lib.hid hok
    have o_X_0 := X2.out.c (i := 0) rfl
    have o_X_1 := X2.out.c (i := 1) rfl
    have o_X_2 := X2.out.c (i := 2) rfl
    go_wp2_with fail
    clear o_X_0 o_X_1 o_X_2
    go_at_call 10
    (with_reducible refine (o_parts_ok R2.out hsm.out ho.out hr9.out).mono ?_)
    rintro e w201 ⟨rfl, hb201⟩
    have X_w201 := Lib.hid (X2.out.below hb201)
    have R_w201 := Lib.hid (R2.out.below hb201)
    have z0_w201 : w.heap.size < w201.heap.size := Nat.lt_of_lt_of_le z2 hb201.size
    clear X2 R2 z2
    have o_X_0 := X_w201.out.c (i := 0) rfl
    have o_X_1 := X_w201.out.c (i := 1) rfl
    have o_X_2 := X_w201.out.c (i := 2) rfl
    go_wp2_with fail
    clear o_X_0 o_X_1 o_X_2
    go_at_call 11
    (with_reducible refine (o_loops_ok R_w201.out hsm.out ho.out hq9.out).mono ?_)
    rintro e w202 ⟨rfl, hb202⟩
    have X_w202 := Lib.hid (X_w201.out.below hb202)
    have R_w202 := Lib.hid (R_w201.out.below hb202)
    have z0_w202 : w.heap.size < w202.heap.size := Nat.lt_of_lt_of_le z0_w201 hb202.size
    have B_w202 := bt hb201 hb202
    clear X_w201 R_w201 z0_w201 hb201 hb202
    have o_X_0 := X_w202.out.c (i := 0) rfl
    have o_X_1 := X_w202.out.c (i := 1) rfl
    have o_X_2 := X_w202.out.c (i := 2) rfl
    go_upto_region 8 with fail
    clear o_X_0 o_X_1 o_X_2
    obtain ⟨w203, hw203⟩ : ∃ W, W = w202.alloc (.cells #[.int .i64 m.segs, .slice A1 m.plans.length c1, .slice none 0 0] 25) := ⟨_, rfl⟩
    have bw203 : Below w202.heap.size w202 w203 := by rw [hw203]; exact (Below.refl _ _).alloc (Nat.le_refl _) _
    have Xw203 : Bx w203 w202.heap.size 25 #[.int .i64 m.segs, .slice A1 m.plans.length c1, .slice none 0 0] := by rw [hw203]; exact Bx.new _ _ _ rfl
    rw [← hw203]
    clear hw203
    have X_w203 := Lib.hid (X_w202.out.below bw203)
    have R_w203 := Lib.hid (R_w202.out.below bw203)
    have Y_w203 := Lib.hid (Xw203)
    have z0_w203 : w.heap.size < w203.heap.size := Nat.lt_of_lt_of_le z0_w202 bw203.size
    have B_w203 := bt B_w202 bw203
    clear X_w202 R_w202 z0_w202 B_w202 bw203
    have z1_w203 : w202.heap.size < w203.heap.size := Xw203.lt
    clear Xw203
    have RB := Lib.hid (show LanR w203 m.bare A1 c1 none 0 from ⟨R_w203.out.plans, Row.zero _⟩)
    have hPB := Lib.hid (fun W (hW : LanR W m.bare A1 c1 none 0) => show Calls Try.prog 10 #[.agg #[.int .i64 m.segs, .slice A1 m.plans.length c1, .slice none 0 0]] W _ from o_parts_ok hW hbs.out hbo.out hbr.out)
    have hLB := Lib.hid (fun W (hW : LanR W m.bare A1 c1 none 0) => show Calls Try.prog 11 #[.agg #[.int .i64 m.segs, .slice A1 m.plans.length c1, .slice none 0 0]] W _ from o_loops_ok hW hbs.out hbo.out hbq.out)
    have o_Y_0 := Y_w203.out.c (i := 0) rfl
    have o_Y_1 := Y_w203.out.c (i := 1) rfl
    have o_Y_2 := Y_w203.out.c (i := 2) rfl
    go_wp2_with fail
    clear o_Y_0 o_Y_1 o_Y_2
    go_at_call 10
    (with_reducible refine (hPB.out _ RB.out).mono ?_)
    rintro e w204 ⟨rfl, hb204⟩
    have X_w204 := Lib.hid (X_w203.out.below hb204)
    have R_w204 := Lib.hid (R_w203.out.below hb204)
    have Y_w204 := Lib.hid (Y_w203.out.below hb204)
    have K_w204 := Lib.hid (RB.out.below hb204)
    have z0_w204 : w.heap.size < w204.heap.size := Nat.lt_of_lt_of_le z0_w203 hb204.size
    have z1_w204 : w202.heap.size < w204.heap.size := Nat.lt_of_lt_of_le z1_w203 hb204.size
    have B_w204 := bt B_w203 hb204
    clear X_w203 R_w203 Y_w203 RB z0_w203 z1_w203 B_w203 hb204
    have o_Y_0 := Y_w204.out.c (i := 0) rfl
    have o_Y_1 := Y_w204.out.c (i := 1) rfl
    have o_Y_2 := Y_w204.out.c (i := 2) rfl
    go_wp2_with fail
    clear o_Y_0 o_Y_1 o_Y_2
    go_at_call 11
    (with_reducible refine (hLB.out _ K_w204.out).mono ?_)
    rintro e w205 ⟨rfl, hb205⟩
    have X_w205 := Lib.hid (X_w204.out.below hb205)
    have R_w205 := Lib.hid (R_w204.out.below hb205)
    have Y_w205 := Lib.hid (Y_w204.out.below hb205)
    have K_w205 := Lib.hid (K_w204.out.below hb205)
    have z0_w205 : w.heap.size < w205.heap.size := Nat.lt_of_lt_of_le z0_w204 hb205.size
    have z1_w205 : w202.heap.size < w205.heap.size := Nat.lt_of_lt_of_le z1_w204 hb205.size
    have B_w205 := bt B_w204 hb205
    clear X_w204 R_w204 Y_w204 K_w204 z0_w204 z1_w204 B_w204 hb205
    have hrr : (r != r) = false := by simp
    have hqq : (q != q) = false := by simp
    have o_X_0 := X_w205.out.c (i := 0) rfl
    have o_X_1 := X_w205.out.c (i := 1) rfl
    have o_X_2 := X_w205.out.c (i := 2) rfl
    go_wp2_with fail
    clear o_X_0 o_X_1 o_X_2
    go_at_call 14
    (with_reducible refine (alive_is _).mono ?_)
    rintro e w206 ⟨rfl, hb206⟩
    have X_w206 := Lib.hid (X_w205.out.below hb206)
    have R_w206 := Lib.hid (R_w205.out.below hb206)
    have Y_w206 := Lib.hid (Y_w205.out.below hb206)
    have K_w206 := Lib.hid (K_w205.out.below hb206)
    have z0_w206 : w.heap.size < w206.heap.size := Nat.lt_of_lt_of_le z0_w205 hb206.size
    have z1_w206 : w202.heap.size < w206.heap.size := Nat.lt_of_lt_of_le z1_w205 hb206.size
    have B_w206 := bt B_w205 hb206
    clear X_w205 R_w205 Y_w205 K_w205 z0_w205 z1_w205 B_w205 hb206
    clear K_w206
    clear hrr hqq
    by_cases hh : m.hosts.length = 0
    · have hhe : ((m.hosts.length : Int) == 0) = true := by rw [beq_iff_eq]; omega
      replace hh := Lib.hid hh
      have o_X_0 := X_w206.out.c (i := 0) rfl
      have o_X_1 := X_w206.out.c (i := 1) rfl
      have o_X_2 := X_w206.out.c (i := 2) rfl
      go_wp2_with fail
      clear o_X_0 o_X_1 o_X_2
      go_ret
      exact ⟨rfl, bt B2.out B_w206⟩
    · have hhe : ((m.hosts.length : Int) == 0) = false := by rw [beq_eq_false_iff_ne]; omega
      have hhp : (0 : Int) < (m.hosts.length : Int) := by omega
      have hh12 := hsm.out.hosts
      have th := tmod_lt h0 (m.hosts.length : Int) hhp
      have ts := tmod_lt s0 m.segs (by omega)
      replace hh := Lib.hid hh
      have o_X_0 := X_w206.out.c (i := 0) rfl
      have o_X_1 := X_w206.out.c (i := 1) rfl
      have o_X_2 := X_w206.out.c (i := 2) rfl
      go_upto_region 14 with fail
      clear o_X_0 o_X_1 o_X_2
      have K_X_0 := cell_regrown (X_w206.out.c (i := 0) rfl)
      have K_X_1 := cell_regrown (X_w206.out.c (i := 1) rfl)
      have K_X_2 := cell_regrown (X_w206.out.c (i := 2) rfl)
      refine wp_region_quiet_below (by kernel_rfl) (by kernel_rfl) ?_
      repeat (first | go_big_quiet_step (fail) | quiet_step (fail))
      refine wpQuiet_nil ?_
      intro _ hw'
      obtain ⟨⟨dq, osq⟩, hw''⟩ := hw'
      subst hw''
      have hqw207 := below_regrown w206 dq osq
      clear K_X_0 K_X_1 K_X_2
      generalize Go.Sort.grow (redrawn w206 dq) osq = w207 at *
      have X_w207 := Lib.hid (X_w206.out.below hqw207)
      have R_w207 := Lib.hid (R_w206.out.below hqw207)
      have Y_w207 := Lib.hid (Y_w206.out.below hqw207)
      have z0_w207 : w.heap.size < w207.heap.size := Nat.lt_of_lt_of_le z0_w206 hqw207.size
      have z1_w207 : w202.heap.size < w207.heap.size := Nat.lt_of_lt_of_le z1_w206 hqw207.size
      have B_w207 := bt B_w206 hqw207
      clear X_w206 R_w206 Y_w206 z0_w206 z1_w206 B_w206 hqw207
      have mh : 0 ≤ (h0.tmod (m.hosts.length : Int) + m.hosts.length) % (m.hosts.length : Int) ∧ (h0.tmod (m.hosts.length : Int) + m.hosts.length) % (m.hosts.length : Int) < (m.hosts.length : Int) := ⟨Int.emod_nonneg _ (by omega), Int.emod_lt_of_pos _ hhp⟩
      have ms : 0 ≤ (s0.tmod m.segs + m.segs) % m.segs ∧ (s0.tmod m.segs + m.segs) % m.segs < m.segs := ⟨Int.emod_nonneg _ (by omega), Int.emod_lt_of_pos _ (by omega)⟩
      generalize (h0.tmod (m.hosts.length : Int) + m.hosts.length) % (m.hosts.length : Int) = hi at *
      generalize (s0.tmod m.segs + m.segs) % m.segs = s at *
      obtain ⟨h, hh9⟩ : ∃ h : Nat, hi = (h : Int) := ⟨hi.toNat, by omega⟩
      subst hh9
      have hk := Lib.hid (show h < m.hosts.length by omega)
      have hkl : (h : Int) < (m.hosts.length : Int) := mh.2
      have hmo := Lib.hid (move_ok ho.out hk.out ms.1 ms.2)
      have hms := Lib.hid (move_small hsm.out h s)
      have hwy := Lib.hid (why_in hmo.out (s := s) ms.1 ms.2)
      have hnow := Lib.hid (has_now hk.out s)
      have hold := Lib.hid (has_old ho.out hk.out s)
      have hwo := Lib.hid (show whyI (m.move h s) (m.hosts.getD h (0, 0)).2 = 0 from by
        refine why_in hmo.out ?_ ?_
        all_goals
          have := (ok_iff.1 ho.out).2.2.2.2.2.2.2
          rw [List.all_eq_true] at this
          have := this _ (List.mem_of_getElem? (hosts_at hk.out))
          unfold hostB at this
          rw [Bool.and_eq_true, Bool.and_eq_true, decide_eq_true_eq, decide_eq_true_eq] at this
        · exact this.2.1
        · exact this.2.2)
      have hat := hosts_at hk.out
      have hset := Lib.hid (show (m.move h s).hosts = m.hosts.set h ((m.hosts.getD h (0, 0)).1, s) from rfl)
      obtain ⟨x, hx⟩ : ∃ x, m.hosts.getD h (0, 0) = x := ⟨_, rfl⟩
      rw [hx] at hnow hold hwo hat hset
      replace hx := Lib.hid hx
      clear th ts mh ms
      obtain ⟨bH, oH, hAH, hbH, q0, q1⟩ := Row.hat R_w207.out.hosts hat
      subst hAH
      replace hat := Lib.hid hat
      have hgW := Lib.hid (show w.heap.size < w207.heap.size from X_w207.out.lt)
      have o_X_0 := X_w207.out.c (i := 0) rfl
      have o_X_1 := X_w207.out.c (i := 1) rfl
      have o_X_2 := X_w207.out.c (i := 2) rfl
      go_upto_region 16 with fail
      clear o_X_0 o_X_1 o_X_2
      obtain ⟨w208, hw208⟩ : ∃ W, W = w207.alloc (.cells #[.int .i64 x.1, .int .i64 x.2] 55) := ⟨_, rfl⟩
      have bw208 : Below w207.heap.size w207 w208 := by rw [hw208]; exact (Below.refl _ _).alloc (Nat.le_refl _) _
      have Xw208 : Bx w208 w207.heap.size 55 #[.int .i64 x.1, .int .i64 x.2] := by rw [hw208]; exact Bx.new _ _ _ rfl
      rw [← hw208]
      clear hw208
      have X_w208 := Lib.hid (X_w207.out.below bw208)
      have R_w208 := Lib.hid (R_w207.out.below bw208)
      have Y_w208 := Lib.hid (Y_w207.out.below bw208)
      have W_w208 := Lib.hid (Xw208)
      have z0_w208 : w.heap.size < w208.heap.size := Nat.lt_of_lt_of_le z0_w207 bw208.size
      have z1_w208 : w202.heap.size < w208.heap.size := Nat.lt_of_lt_of_le z1_w207 bw208.size
      have B_w208 := bt B_w207 bw208
      clear X_w207 R_w207 Y_w207 z0_w207 z1_w207 B_w207 bw208
      have z2_w208 : w207.heap.size < w208.heap.size := Xw208.lt
      clear Xw208
      clear q0 q1 hbH
      obtain ⟨w91, hw91⟩ : ∃ W, W = w208.alloc (.cells #[] 55) := ⟨_, rfl⟩
      have bb91 : Below w208.heap.size w208 w91 := by rw [hw91]; exact (Below.refl _ _).alloc (Nat.le_refl _) _
      have O91 := Lib.hid (show Own w91 w208.heap.size 55 2 (.slice (some ⟨w208.heap.size, 0, none⟩) 0 0) [] by rw [hw91]; exact own_lit0 _ _ _)
      have H91 := Lib.hid (R_w208.out.hosts.below bb91)
      have X91 := Lib.hid (X_w208.out.below bb91)
      have W91 := Lib.hid (W_w208.out.below bb91)
      have g91 := Lib.hid (hg9.out.trans (below_grown (bt B_w208 bb91)))
      have B91 := Lib.hid (bt B2.out (bt B_w208 bb91))
      have hsE := Lib.hid (show w1.heap.size ≤ w208.heap.size ∧ w.heap.size < w208.heap.size ∧ w207.heap.size < w208.heap.size ∧ w.heap.size ≠ w207.heap.size from ⟨by have := hg9.out.size; have := B_w208.size; omega, X_w208.out.lt, W_w208.out.lt, fun e => by have := hgW.out; omega⟩)
      have hn1 := Lib.hid (show (([] : List (List Value)).length + (m.hosts.map hc).length ≤ 1000000) by simp; omega)
      have hB2 := Lib.hid (show w208.heap.size ≤ w91.heap.size from bb91.size)
      have hnil := Lib.hid H91.out.nil
      clear bb91
      have x0 := X_w208.out.c (i := 0) rfl
      have x2 := X_w208.out.c (i := 2) rfl
      have zz := X_w208.out.lt
      go_wp2_with (at_builtin; rw [← hw91]; (refine wpList_append_sl rfl (.tmp 117) (.tmp 119) 23 rfl elH (by rfl) O91.out (by rfl) (by rw [List.length_map]) H91.out.sl (wholeH _) hnil.out hn1.out hB2.out ?_); intro v' w92 own1 grow1 _; rw [List.nil_append] at own1; clear x0 x2 zz; obtain ⟨A9, c9, rfl⟩ := own_form own1; obtain ⟨g9, rfl, hge, hgl⟩ := own_ptr own1 (by intro h; rw [List.map_eq_nil_iff] at h; rw [h] at hk; exact absurd hk.out (by simp)); have hX92 := X91.out.grown grow1 (fun e => by have := (O91.out.lt _ e.symm).1; have := hsE.out; omega); have hW92 := W91.out.grown grow1 (fun e => by have := (O91.out.lt _ e.symm).1; have := hsE.out; omega); have g92 := grown_at g91.out grow1 (fun k e => by have := (O91.out.lt _ e).1; have := hsE.out; omega); have B92 := B91.out.grown grow1 B91.out.size (fun k e => by have := (O91.out.lt _ e).1; have := hsE.out; omega); have x1 := hX92.c (i := 1) rfl; have x2 := hX92.c (i := 2) rfl; have x0 := hX92.c (i := 0) rfl; have f2 := hX92.f 2; have zz := hX92.lt; have hfr := own_free own1 (h * 2 + 1); have hcl := own_cell own1 (by decide) (show (m.hosts.map hc)[h]? = some (hc x) by rw [List.getElem?_map, hat.out]; rfl) (i := 1) rfl; have hfa := hfr.1; have hfb := hfr.2; have hne1 : ¬ g9 = w.heap.size := (fun e => by have := hsE.out; omega); have hne2 : ¬ w.heap.size = g9 := (fun e => hne1 e.symm); replace hX92 := Lib.hid hX92; replace hW92 := Lib.hid hW92; replace g92 := Lib.hid g92; replace B92 := Lib.hid B92; replace own1 := Lib.hid own1; replace hge := Lib.hid hge; clear hfr grow1)
      obtain ⟨w94, hw94⟩ : ∃ W, W = (w92.setCell ⟨w.heap.size, 2, none⟩ (.slice (some ⟨g9, 0, none⟩) m.hosts.length c9)).setCell ⟨g9, h * 2 + 1, none⟩ (.int .i64 s) := ⟨_, rfl⟩
      have X94 := Lib.hid (show Bx w94 w.heap.size 25 #[.int .i64 m.segs, .slice A1 m.plans.length c1, .slice (some ⟨g9, 0, none⟩) m.hosts.length c9] by rw [hw94]; exact (hX92.out.set 2 (.slice (some ⟨g9, 0, none⟩) m.hosts.length c9)).other hne2 _ _)
      have W94 := Lib.hid (show Bx w94 w207.heap.size 55 #[.int .i64 x.1, .int .i64 x.2] by rw [hw94]; exact (hW92.out.other (fun e => hsE.out.2.2.2 e.symm) _ _).other (fun e => by have := hsE.out; have := hge.out; omega) _ _)
      have own94 := Lib.hid (show Own w94 w208.heap.size 55 2 (.slice (some ⟨g9, 0, none⟩) m.hosts.length c9) ((m.hosts.map hc).set h [.int .i64 x.1, .int .i64 s]) by
        have a := own1.out.kept (setCell_grown w92 w.heap.size 2 (.slice (some ⟨g9, 0, none⟩) m.hosts.length c9)) (.inr (fun e => by injection e with e; exact hne1 e))
        have := own_put (i := 1) (j := h) a (show (m.hosts.map hc)[h]? = some (hc x) by rw [List.getElem?_map, hat.out]; rfl) (by decide) (v := .int .i64 s) rfl
        rw [hw94]; exact this)
      have g94 := Lib.hid (show w1.grownBy w94 (some w.heap.size) by rw [hw94]; exact grown_set (g92.out.trans (setCell_grown _ _ _ _)) (by have := hge.out; have := hsE.out; omega) _ _)
      have B94 := Lib.hid (show Below w.heap.size w w94 by rw [hw94]; exact (B92.out.setCell (Nat.le_refl _) _).setCell (show w.heap.size ≤ g9 by have := hge.out; have := hsE.out; omega) _)
      have hrow := Lib.hid (show Row hc 2 w94 (some ⟨g9, 0, none⟩) (m.move h s).hosts.length c9 (m.move h s).hosts by
        have := own94.out
        rw [show [Value.int .i64 x.1, .int .i64 s] = hc (x.1, s) from rfl, ← List.map_set, ← hset.out] at this
        have r := Row.own this (by decide)
        rw [r.len] at r
        exact r)
      have R94 := Lib.hid (show LanR w94 (m.move h s) A1 c1 (some ⟨g9, 0, none⟩) c9 from ⟨(hK9.out w.heap.size w94 hx9.out.1 g94.out B94.out).plans, hrow.out⟩)
      have hOn := Lib.hid (fun W (hW : LanR W (m.move h s) A1 c1 (some ⟨g9, 0, none⟩) c9) => show Calls Try.prog 8 #[.agg #[.int .i64 m.segs, .slice A1 m.plans.length c1, .slice (some ⟨g9, 0, none⟩) m.hosts.length c9], .int .i64 s] W _ from by have := o_on_ok hW hms.out hwy.out; rw [lv_move] at this; exact this)
      have hOo := Lib.hid (fun W (hW : LanR W (m.move h s) A1 c1 (some ⟨g9, 0, none⟩) c9) => show Calls Try.prog 8 #[.agg #[.int .i64 m.segs, .slice A1 m.plans.length c1, .slice (some ⟨g9, 0, none⟩) m.hosts.length c9], .int .i64 x.2] W _ from by have := o_on_ok hW hms.out hwo.out; rw [lv_move] at this; exact this)
      rw [← hw94]
      clear hw94 x0 x1 x2 f2 zz hcl hfa hfb
      have z94 := X94.out.lt
      have zW := W94.out.lt
      go_at_call 8
      (with_reducible refine (hOn.out _ R94.out).mono ?_)
      rintro e w401 ⟨AN, cN, AP, cP, rfl, rN, rP, hb401⟩
      have X_w401 := Lib.hid (X94.out.below hb401)
      have W_w401 := Lib.hid (W94.out.below hb401)
      have R_w401 := Lib.hid (R94.out.below hb401)
      have N_w401 := Lib.hid (rN)
      have z0_w401 : w.heap.size < w401.heap.size := Nat.lt_of_lt_of_le z94 hb401.size
      have z1_w401 : w207.heap.size < w401.heap.size := Nat.lt_of_lt_of_le zW hb401.size
      clear X94 W94 R94 z94 zW
      have o_X_0 := X_w401.out.c (i := 0) rfl
      have o_X_1 := X_w401.out.c (i := 1) rfl
      have o_X_2 := X_w401.out.c (i := 2) rfl
      have o_W_0 := W_w401.out.c (i := 0) rfl
      have o_W_1 := W_w401.out.c (i := 1) rfl
      go_wp2_with fail
      clear o_X_0 o_X_1 o_X_2 o_W_0 o_W_1
      go_at_call 8
      (with_reducible refine (hOo.out _ R_w401.out).mono ?_)
      rintro e w402 ⟨AQ, cQ, AP2, cP2, rfl, rQ, rP2, hb402⟩
      have X_w402 := Lib.hid (X_w401.out.below hb402)
      have W_w402 := Lib.hid (W_w401.out.below hb402)
      have R_w402 := Lib.hid (R_w401.out.below hb402)
      have N_w402 := Lib.hid (N_w401.out.below hb402)
      have Q_w402 := Lib.hid (rQ)
      have z0_w402 : w.heap.size < w402.heap.size := Nat.lt_of_lt_of_le z0_w401 hb402.size
      have z1_w402 : w207.heap.size < w402.heap.size := Nat.lt_of_lt_of_le z1_w401 hb402.size
      have B_w402 := bt hb401 hb402
      clear X_w401 W_w401 R_w401 N_w401 z0_w401 z1_w401 hb401 hb402
      have hl1 := hostsOf_len (m.move h s) s hms.out
      have hl2 := hostsOf_len (m.move h s) x.2 hms.out
      go_upto_region 21 with fail
      obtain ⟨e9, he9⟩ : ∃ e, (s == x.2) = e := ⟨_, rfl⟩
      rw [he9] at hold
      have hee : (e9 == e9) = true := by simp
      have K_X_0 := cell_regrown (X_w402.out.c (i := 0) rfl)
      have K_X_1 := cell_regrown (X_w402.out.c (i := 1) rfl)
      have K_X_2 := cell_regrown (X_w402.out.c (i := 2) rfl)
      have K_W_0 := cell_regrown (W_w402.out.c (i := 0) rfl)
      have K_W_1 := cell_regrown (W_w402.out.c (i := 1) rfl)
      have cC0 := fun (d : Nat) (os : Array Obj) => Calls.regrown_of (st_is (W_w402.out.below (below_regrown w402 d os)) (N_w402.out.below (below_regrown w402 d os)) hl1 hnow.out)
      have cC1 := fun (d : Nat) (os : Array Obj) => Calls.regrown_of (st_is (W_w402.out.below (below_regrown w402 d os)) (Q_w402.out.below (below_regrown w402 d os)) hl2 hold.out)
      refine wp_region_quiet_below (by kernel_rfl) (by kernel_rfl) ?_
      repeat (first | go_big_quiet_step (first | with_reducible exact cC0 _ _ | with_reducible exact cC1 _ _) | quiet_step (first | with_reducible exact cC0 _ _ | with_reducible exact cC1 _ _))
      refine wpQuiet_nil ?_
      intro _ hw'
      obtain ⟨⟨dq, osq⟩, hw''⟩ := hw'
      subst hw''
      have hqw403 := below_regrown w402 dq osq
      clear K_X_0 K_X_1 K_X_2 K_W_0 K_W_1 cC0 cC1
      generalize Go.Sort.grow (redrawn w402 dq) osq = w403 at *
      have X_w403 := Lib.hid (X_w402.out.below hqw403)
      have W_w403 := Lib.hid (W_w402.out.below hqw403)
      have R_w403 := Lib.hid (R_w402.out.below hqw403)
      have N_w403 := Lib.hid (N_w402.out.below hqw403)
      have Q_w403 := Lib.hid (Q_w402.out.below hqw403)
      have z0_w403 : w.heap.size < w403.heap.size := Nat.lt_of_lt_of_le z0_w402 hqw403.size
      have z1_w403 : w207.heap.size < w403.heap.size := Nat.lt_of_lt_of_le z1_w402 hqw403.size
      have B_w403 := bt B_w402 hqw403
      clear X_w402 W_w402 R_w402 N_w402 Q_w402 z0_w402 z1_w402 B_w402 hqw403
      go_wp2_with fail
      go_ret
      exact ⟨rfl, bt B94.out B_w403⟩
theorem stations_go (v : Value) (h seg : Int) {w : World} (hv : InLan w v) (_hh : (Lit.int .i64 h).wf = true) (_hseg : (Lit.int .i64 seg).wf = true) : Calls Try.prog 6 #[v, .int .i64 h, .int .i64 seg] w (True1 w) := by
  obtain ⟨l, A, c, B, d, rfl, hr⟩ := hv
  exact stations_law hr h seg
end Go.Proofs.Ytoaabdejbipamaa.LanP
