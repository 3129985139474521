/-
  TreeSpans.
-/
import Derived.Test.YtplgaenfcaphnaaTreeNA
import Derived.Test.YtplgaenfcaphnaaTreeSH
import Derived.Test.YtplgaenfcaphnaaTreeSH
import Derived.BigRegion
import Derived.Deep.LoopGhost
namespace Go.Proofs.Ytplgaenfcaphnaa.LanP
open Go.RowKit Go.Sort Go.Proofs.Ytplgaenfcaphnaa.SliceP Go.Proofs.Ytplgaenfcaphnaa.BoxP
open Go.Proofs.Ytplgaenfcaphnaa.IntP (RowI SlI OwnI)
open Go.Proofs.Ytplgaenfcaphnaa.BoolP (RowB SlB OwnB)
open Go.Proofs.Ytplgaenfcaphnaa.MacP (arr_out)
set_option linter.unusedVariables false
set_option maxRecDepth 100000
theorem opens_rows {l : L} (b : Nat) (r : List Bool) (h : l.opens[b]? = some r) : r.length = (pl l b).ports.length := by
  have hb : b < l.plans.length := by rw [← opens_len l]; exact (List.getElem?_eq_some_iff.1 h).1
  rw [opens_get hb] at h
  obtain rfl := Option.some.inj h
  unfold rolesB
  rw [List.length_map, List.length_map, List.length_range]
theorem tree_n (l : L) : l.tree.n = l.n := rfl
theorem tree_ids (l : L) : l.tree.ids = l.ids := by
  unfold L.ids L.tree
  simp only
  apply List.ext_getElem?
  intro i
  rw [List.getElem?_map, List.getElem?_map, List.getElem?_map]
  by_cases h : i < l.plans.length
  · rw [List.getElem?_range h, plan_get h]; rfl
  · rw [List.getElem?_eq_none (by simp; omega), List.getElem?_eq_none (by omega)]; rfl
theorem tree_pok {l : L} {n : Int} {b : Nat} (h : P.ok n (pl l b) = true) : P.ok n (treeP l b) = true := by
  unfold P.ok at h ⊢
  simp only [Bool.and_eq_true, decide_eq_true_eq, List.all_eq_true] at h ⊢
  refine ⟨h.1, ?_, ?_⟩
  · show 1 ≤ (treeP l b).ports.length ∧ (treeP l b).ports.length ≤ 8
    unfold treeP
    rw [List.length_map, List.length_range]
    exact h.2.1
  · intro x hx
    obtain ⟨k, hk, rfl⟩ := List.mem_map.1 hx
    have h9 := h.2.2 _ (prt_mem (List.mem_range.1 hk))
    unfold lkB at h9 ⊢
    exact h9
theorem tree_ok {l : L} (h : l.ok = true) : l.tree.ok = true := by
  unfold L.ok L.okU L.plansB at h ⊢
  rw [tree_ids]
  simp only [Bool.and_eq_true, decide_eq_true_eq, List.all_eq_true] at h ⊢
  refine ⟨h.1, ⟨?_, h.2.1.2.1, ?_⟩, h.2.2⟩
  · show ((List.range l.plans.length).map (treeP l)).length ≤ 6
    rw [List.length_map, List.length_range]; exact h.2.1.1
  · intro p hp
    obtain ⟨b, hb, rfl⟩ := List.mem_map.1 hp
    exact tree_pok (h.2.1.2.2 _ (List.mem_of_getElem? (plan_get (List.mem_range.1 hb))))
theorem tree_small {l : L} (h : Small l) : Small l.tree := ⟨by show ((List.range l.plans.length).map (treeP l)).length ≤ 8; rw [List.length_map, List.length_range]; exact h.plans, fun p hp => by
  obtain ⟨b, hb, rfl⟩ := List.mem_map.1 hp
  show ((List.range (pl l b).ports.length).map _).length ≤ 10
  rw [List.length_map, List.length_range]
  exact h.ports _ (List.mem_of_getElem? (plan_get (List.mem_range.1 hb))), h.hosts⟩
theorem tree_part {l : L} (ho : l.ok = true) (s : Int) : l.part s = l.tree.part s := by
  unfold L.part
  rw [tree_n]
  congr 1
  funext t
  rw [tree_lab (ok_fine ho) t, tree_lab (ok_fine ho) s]
theorem opn_up {l : L} {b k : Nat} (h : opn l b k = true) : (prt l b k).up = true := by
  unfold opn at h
  rw [Bool.and_eq_true] at h
  exact h.1
set_option maxHeartbeats 16000000 in
theorem spans_law {l : L} {A : Option Addr} {c : Nat} {B : Option Addr} {d : Nat} {w : World} (hr : LanR w l A c B d) : Calls Try.prog 4 #[lv l A c B d] w (True1 w) := by
  obtain ⟨w0, hw0, X0, R0, B0⟩ := new3 w hr
  have hF := Lib.hid (o_few hr B0)
  have hsm := Lib.hid (few_small l)
  replace X0 := Lib.hid X0
  replace B0 := Lib.hid B0
  clear hr R0
  go_enter Try.func4, Try.ntmps4
  go_upto_region 1 with fail
  rw [← hw0]
  clear hw0
  have x0 := X0.out.c (i := 0) rfl
  have x1 := X0.out.c (i := 1) rfl
  have x2 := X0.out.c (i := 2) rfl
  have zz := X0.out.lt
  go_wp2_with fail
  go_at_call 7
  (with_reducible refine hF.out.mono ?_)
  rintro e w1 ⟨A1, c1, rfl, hb1, hK⟩
  obtain ⟨m, hm⟩ : ∃ m, l.few = m := ⟨_, rfl⟩
  rw [hm] at hK hsm ⊢
  replace hm := Lib.hid hm
  clear x0 x1 x2 zz
  have X1 := Lib.hid (X0.out.below hb1)
  have x0 := X1.out.c (i := 0) rfl
  have x1 := X1.out.c (i := 1) rfl
  have x2 := X1.out.c (i := 2) rfl
  have f0 := X1.out.f 0
  have f1 := X1.out.f 1
  have f2 := X1.out.f 2
  have zz := X1.out.lt
  have B1 := Lib.hid (bt B0.out hb1)
  obtain ⟨w2, hw2⟩ : ∃ W, W = ((w1.setCell ⟨w.heap.size, 0, none⟩ (.int .i64 m.segs)).setCell ⟨w.heap.size, 1, none⟩ (.slice A1 m.plans.length c1)).setCell ⟨w.heap.size, 2, none⟩ (.slice B m.hosts.length d) := ⟨_, rfl⟩
  have X2 := Lib.hid (show Bx w2 w.heap.size 25 #[.int .i64 m.segs, .slice A1 m.plans.length c1, .slice B m.hosts.length d] by rw [hw2]; exact Bx.three X1.out)
  have B2 := Lib.hid (show Below w.heap.size w w2 by rw [hw2]; exact below3 B1.out (Nat.le_refl _) _ _ _)
  have R2 := Lib.hid (hK w.heap.size w2 X0.out.lt (by rw [hw2]; exact ((setCell_grown _ _ _ _).trans (setCell_grown _ _ _ _)).trans (setCell_grown _ _ _ _)) B2.out)
  go_upto_region 2 with fail
  rw [← hw2]
  have z2 := X2.out.lt
  clear hw2 hb1 hK x0 x1 x2 f0 f1 f2 zz X0 X1 B0 B1 hF
  cases ho : m.ok
  · replace ho := Lib.hid ho
    have o_X_0 := X2.out.c (i := 0) rfl
    have o_X_1 := X2.out.c (i := 1) rfl
    have o_X_2 := X2.out.c (i := 2) rfl
    go_wp2_with fail
    clear o_X_0 o_X_1 o_X_2
    go_at_call 11
    (with_reducible refine (o_open_no R2.out hsm.out ho.out).mono ?_)
    rintro e w101 ⟨rfl, hb101⟩
    have X_w101 := Lib.hid (X2.out.below hb101)
    have R_w101 := Lib.hid (R2.out.below hb101)
    have z0_w101 : w.heap.size < w101.heap.size := Nat.lt_of_lt_of_le z2 hb101.size
    clear X2 R2 z2
    have o_X_0 := X_w101.out.c (i := 0) rfl
    have o_X_1 := X_w101.out.c (i := 1) rfl
    have o_X_2 := X_w101.out.c (i := 2) rfl
    go_wp2_with fail
    clear o_X_0 o_X_1 o_X_2
    go_at_call 13
    (with_reducible refine (alive_is _).mono ?_)
    rintro e w102 ⟨rfl, hb102⟩
    have X_w102 := Lib.hid (X_w101.out.below hb102)
    have R_w102 := Lib.hid (R_w101.out.below hb102)
    have z0_w102 : w.heap.size < w102.heap.size := Nat.lt_of_lt_of_le z0_w101 hb102.size
    have B_w102 := bt hb101 hb102
    clear X_w101 R_w101 z0_w101 hb101 hb102
    go_wp2_with fail
    go_ret
    exact ⟨rfl, bt B2.out B_w102⟩
  · have HO := Lib.hid ho
    clear ho
    obtain ⟨t, ht⟩ : ∃ t, m.tree = t := ⟨_, rfl⟩
    have tok := tree_ok HO.out
    have tsm := tree_small hsm.out
    have tlo := tree_loops (ok_fit HO.out) (ok_fine HO.out)
    have tpa := fun s => tree_part HO.out s
    have tnn := tree_n m
    rw [ht] at tok tsm tlo tpa tnn
    have hok := ok_segs HO.out
    obtain ⟨n, hn⟩ : ∃ n, m.n = n := ⟨_, rfl⟩
    rw [hn] at tnn
    have hsn : m.segs = (n : Int) := by rw [← hn]; exact hok.2.2.symm
    have hn8 : n ≤ 8 := by have := hok.2.1; omega
    replace tok := Lib.hid tok
    replace tsm := Lib.hid tsm
    replace tlo := Lib.hid tlo
    replace tpa := Lib.hid tpa
    replace tnn := Lib.hid tnn
    replace hok := Lib.hid hok
    replace hsn := Lib.hid hsn
    replace hn := Lib.hid hn
    replace ht := Lib.hid ht
    have hol := opens_len m
    have hor := Lib.hid (fun b r h => opens_rows (l := m) b r h)
    replace hol := Lib.hid hol
    have o_X_0 := X2.out.c (i := 0) rfl
    have o_X_1 := X2.out.c (i := 1) rfl
    have o_X_2 := X2.out.c (i := 2) rfl
    go_wp2_with fail
    clear o_X_0 o_X_1 o_X_2
    go_at_call 11
    (with_reducible refine (o_open_ok R2.out hsm.out HO.out).mono ?_)
    rintro e w201 ⟨AO, cO, rfl, rO, hb201⟩
    have X_w201 := Lib.hid (X2.out.below hb201)
    have R_w201 := Lib.hid (R2.out.below hb201)
    have O_w201 := Lib.hid (rO)
    have z0_w201 : w.heap.size < w201.heap.size := Nat.lt_of_lt_of_le z2 hb201.size
    clear X2 R2 z2
    have o_X_0 := X_w201.out.c (i := 0) rfl
    have o_X_1 := X_w201.out.c (i := 1) rfl
    have o_X_2 := X_w201.out.c (i := 2) rfl
    go_wp2_with fail
    clear o_X_0 o_X_1 o_X_2
    go_at_call 18
    (with_reducible refine (sh_bool R_w201.out hsm.out O_w201.out hol.out hor.out).mono ?_)
    rintro e w202 ⟨rfl, hb202⟩
    have X_w202 := Lib.hid (X_w201.out.below hb202)
    have R_w202 := Lib.hid (R_w201.out.below hb202)
    have O_w202 := Lib.hid (O_w201.out.below hb202)
    have z0_w202 : w.heap.size < w202.heap.size := Nat.lt_of_lt_of_le z0_w201 hb202.size
    have B_w202 := bt hb201 hb202
    clear X_w201 R_w201 O_w201 z0_w201 hb201 hb202
    have o_X_0 := X_w202.out.c (i := 0) rfl
    have o_X_1 := X_w202.out.c (i := 1) rfl
    have o_X_2 := X_w202.out.c (i := 2) rfl
    go_wp2_with fail
    clear o_X_0 o_X_1 o_X_2
    go_at_call 13
    (with_reducible refine (alive_is _).mono ?_)
    rintro e w203 ⟨rfl, hb203⟩
    have X_w203 := Lib.hid (X_w202.out.below hb203)
    have R_w203 := Lib.hid (R_w202.out.below hb203)
    have O_w203 := Lib.hid (O_w202.out.below hb203)
    have z0_w203 : w.heap.size < w203.heap.size := Nat.lt_of_lt_of_le z0_w202 hb203.size
    have B_w203 := bt B_w202 hb203
    clear X_w202 R_w202 O_w202 z0_w202 B_w202 hb203
    have o_X_0 := X_w203.out.c (i := 0) rfl
    have o_X_1 := X_w203.out.c (i := 1) rfl
    have o_X_2 := X_w203.out.c (i := 2) rfl
    go_wp2_with fail
    clear o_X_0 o_X_1 o_X_2
    go_at_call 19
    (with_reducible refine (o_closed R_w203.out hsm.out O_w203.out).mono ?_)
    rw [ht.out]
    rintro e w204 ⟨AT, cT, rfl, rT, hb204⟩
    have X_w204 := Lib.hid (X_w203.out.below hb204)
    have R_w204 := Lib.hid (R_w203.out.below hb204)
    have O_w204 := Lib.hid (O_w203.out.below hb204)
    have T_w204 := Lib.hid (rT)
    have z0_w204 : w.heap.size < w204.heap.size := Nat.lt_of_lt_of_le z0_w203 hb204.size
    have B_w204 := bt B_w203 hb204
    clear X_w203 R_w203 O_w203 z0_w203 B_w203 hb204
    have o_X_0 := X_w204.out.c (i := 0) rfl
    have o_X_1 := X_w204.out.c (i := 1) rfl
    have o_X_2 := X_w204.out.c (i := 2) rfl
    go_upto_region 8 with fail
    clear o_X_0 o_X_1 o_X_2
    obtain ⟨w205, hw205⟩ : ∃ W, W = w204.alloc (.cells #[.int .i64 t.segs, .slice AT t.plans.length cT, .slice B t.hosts.length d] 25) := ⟨_, rfl⟩
    have bw205 : Below w204.heap.size w204 w205 := by rw [hw205]; exact (Below.refl _ _).alloc (Nat.le_refl _) _
    have Xw205 : Bx w205 w204.heap.size 25 #[.int .i64 t.segs, .slice AT t.plans.length cT, .slice B t.hosts.length d] := by rw [hw205]; exact Bx.new _ _ _ rfl
    rw [← hw205]
    clear hw205
    have X_w205 := Lib.hid (X_w204.out.below bw205)
    have R_w205 := Lib.hid (R_w204.out.below bw205)
    have O_w205 := Lib.hid (O_w204.out.below bw205)
    have T_w205 := Lib.hid (T_w204.out.below bw205)
    have Y_w205 := Lib.hid (Xw205)
    have z0_w205 : w.heap.size < w205.heap.size := Nat.lt_of_lt_of_le z0_w204 bw205.size
    have B_w205 := bt B_w204 bw205
    clear X_w204 R_w204 O_w204 T_w204 z0_w204 B_w204 bw205
    have z1_w205 : w204.heap.size < w205.heap.size := Xw205.lt
    clear Xw205
    have o_X_0 := X_w205.out.c (i := 0) rfl
    have o_X_1 := X_w205.out.c (i := 1) rfl
    have o_X_2 := X_w205.out.c (i := 2) rfl
    have o_Y_0 := Y_w205.out.c (i := 0) rfl
    have o_Y_1 := Y_w205.out.c (i := 1) rfl
    have o_Y_2 := Y_w205.out.c (i := 2) rfl
    go_wp2_with fail
    clear o_X_0 o_X_1 o_X_2 o_Y_0 o_Y_1 o_Y_2
    go_at_call 20
    (with_reducible refine (o_loops_ok T_w205.out tsm.out tok.out tlo.out).mono ?_)
    rintro e w206 ⟨rfl, hb206⟩
    have X_w206 := Lib.hid (X_w205.out.below hb206)
    have R_w206 := Lib.hid (R_w205.out.below hb206)
    have O_w206 := Lib.hid (O_w205.out.below hb206)
    have T_w206 := Lib.hid (T_w205.out.below hb206)
    have Y_w206 := Lib.hid (Y_w205.out.below hb206)
    have z0_w206 : w.heap.size < w206.heap.size := Nat.lt_of_lt_of_le z0_w205 hb206.size
    have z1_w206 : w204.heap.size < w206.heap.size := Nat.lt_of_lt_of_le z1_w205 hb206.size
    have B_w206 := bt B_w205 hb206
    clear X_w205 R_w205 O_w205 T_w205 Y_w205 z0_w205 z1_w205 B_w205 hb206
    have BB := Lib.hid B_w206
    clear B_w206
    have o_X_0 := X_w206.out.c (i := 0) rfl
    have o_X_1 := X_w206.out.c (i := 1) rfl
    have o_X_2 := X_w206.out.c (i := 2) rfl
    go_wp2_with fail
    clear o_X_0 o_X_1 o_X_2
    go_loopw [55] (fun i wr => ∃ k : Nat, k ≤ n ∧ i = .int .i64 k ∧ Below w206.heap.size w206 wr) (fun i _ => n - (intOf i).toNat)
    case atStart => exact ⟨0, by omega, rfl, Below.refl _ _⟩
    case round =>
      obtain ⟨k, hk, rfl, hb⟩ := hrel
      obtain ⟨wo, hwo⟩ : ∃ W, W = wr := ⟨_, rfl⟩
      subst hwo
      by_cases hkn : k < n
      · have hkl : (k : Int) < m.segs := by rw [hsn.out]; omega
        have hk1 := Lib.hid (show k < m.n by rw [hn.out]; exact hkn)
        have hk2 := Lib.hid (show k < t.n by rw [tnn.out]; exact hkn)
        have hpl := Lib.hid (part_len m (k : Int))
        have hpt := Lib.hid (decide_eq_true (tpa.out (k : Int)))
        have X_wo := Lib.hid (X_w206.out.below hb)
        have R_wo := Lib.hid (R_w206.out.below hb)
        have O_wo := Lib.hid (O_w206.out.below hb)
        have T_wo := Lib.hid (T_w206.out.below hb)
        have Y_wo := Lib.hid (Y_w206.out.below hb)
        have z0_wo : w.heap.size < wo.heap.size := Nat.lt_of_lt_of_le z0_w206 hb.size
        have z1_wo : w204.heap.size < wo.heap.size := Nat.lt_of_lt_of_le z1_w206 hb.size
        have o_X_0 := X_wo.out.c (i := 0) rfl
        have o_X_1 := X_wo.out.c (i := 1) rfl
        have o_X_2 := X_wo.out.c (i := 2) rfl
        have o_Y_0 := Y_wo.out.c (i := 0) rfl
        have o_Y_1 := Y_wo.out.c (i := 1) rfl
        have o_Y_2 := Y_wo.out.c (i := 2) rfl
        go_wp2_with fail
        clear o_X_0 o_X_1 o_X_2 o_Y_0 o_Y_1 o_Y_2
        go_at_call 21
        (with_reducible refine (o_part_ok R_wo.out hsm.out HO.out hk1.out).mono ?_)
        rintro e w401 ⟨A401, c401, rfl, r401, hb401⟩
        have X_w401 := Lib.hid (X_wo.out.below hb401)
        have R_w401 := Lib.hid (R_wo.out.below hb401)
        have O_w401 := Lib.hid (O_wo.out.below hb401)
        have T_w401 := Lib.hid (T_wo.out.below hb401)
        have Y_w401 := Lib.hid (Y_wo.out.below hb401)
        have P_w401 := Lib.hid (r401)
        have z0_w401 : w.heap.size < w401.heap.size := Nat.lt_of_lt_of_le z0_wo hb401.size
        have z1_w401 : w204.heap.size < w401.heap.size := Nat.lt_of_lt_of_le z1_wo hb401.size
        have B_w401 := bt hb hb401
        clear X_wo R_wo O_wo T_wo Y_wo z0_wo z1_wo hb hb401
        have o_X_0 := X_w401.out.c (i := 0) rfl
        have o_X_1 := X_w401.out.c (i := 1) rfl
        have o_X_2 := X_w401.out.c (i := 2) rfl
        have o_Y_0 := Y_w401.out.c (i := 0) rfl
        have o_Y_1 := Y_w401.out.c (i := 1) rfl
        have o_Y_2 := Y_w401.out.c (i := 2) rfl
        go_wp2_with fail
        clear o_X_0 o_X_1 o_X_2 o_Y_0 o_Y_1 o_Y_2
        go_at_call 21
        (with_reducible refine (o_part_ok T_w401.out tsm.out tok.out hk2.out).mono ?_)
        rintro e w402 ⟨A402, c402, rfl, r402, hb402⟩
        have X_w402 := Lib.hid (X_w401.out.below hb402)
        have R_w402 := Lib.hid (R_w401.out.below hb402)
        have O_w402 := Lib.hid (O_w401.out.below hb402)
        have T_w402 := Lib.hid (T_w401.out.below hb402)
        have Y_w402 := Lib.hid (Y_w401.out.below hb402)
        have P_w402 := Lib.hid (P_w401.out.below hb402)
        have Q_w402 := Lib.hid (r402)
        have z0_w402 : w.heap.size < w402.heap.size := Nat.lt_of_lt_of_le z0_w401 hb402.size
        have z1_w402 : w204.heap.size < w402.heap.size := Nat.lt_of_lt_of_le z1_w401 hb402.size
        have B_w402 := bt B_w401 hb402
        clear X_w401 R_w401 O_w401 T_w401 Y_w401 P_w401 z0_w401 z1_w401 B_w401 hb402
        go_wp2_with fail
        go_at_call 22
        (with_reducible refine (r_same P_w402.out Q_w402.out (by have := hpl.out; have := hn.out; omega) hpt.out).mono ?_)
        rintro e w403 ⟨rfl, hb403⟩
        have X_w403 := Lib.hid (X_w402.out.below hb403)
        have R_w403 := Lib.hid (R_w402.out.below hb403)
        have O_w403 := Lib.hid (O_w402.out.below hb403)
        have T_w403 := Lib.hid (T_w402.out.below hb403)
        have Y_w403 := Lib.hid (Y_w402.out.below hb403)
        have P_w403 := Lib.hid (P_w402.out.below hb403)
        have Q_w403 := Lib.hid (Q_w402.out.below hb403)
        have z0_w403 : w.heap.size < w403.heap.size := Nat.lt_of_lt_of_le z0_w402 hb403.size
        have z1_w403 : w204.heap.size < w403.heap.size := Nat.lt_of_lt_of_le z1_w402 hb403.size
        have B_w403 := bt B_w402 hb403
        clear X_w402 R_w402 O_w402 T_w402 Y_w402 P_w402 Q_w402 z0_w402 z1_w402 B_w402 hb403
        go_wp2_with fail
        go_roundw
        case rel => exact ⟨k + 1, by omega, by go_num, B_w403⟩
        case measure => simp [intOf]; omega
      · obtain rfl : k = n := by omega
        have hge : ¬ ((k : Int) < m.segs) := by rw [hsn.out]; omega
        have X9 := Lib.hid (X_w206.out.below hb)
        have H9 := Lib.hid (R_w206.out.plans.below hb)
        have O9 := Lib.hid (O_w206.out.below hb)
        have B9 := Lib.hid (bt B2.out (bt BB.out hb))
        have x1 := X9.out.c (i := 1) rfl
        have zx := X9.out.lt
        have hpm := Lib.hid hsm.out.ports
        have hpn := hsm.out.plans
        clear hb
        go_wp2_with fail
        clear x1 zx hge
        go_loopw [86] (fun i wr => ∃ b : Nat, b ≤ m.plans.length ∧ i = .int .i64 b ∧ Below wo.heap.size wo wr) (fun i _ => m.plans.length - (intOf i).toNat)
        case atStart => exact ⟨0, by omega, rfl, Below.refl _ _⟩
        case round =>
          obtain ⟨b, hbk, rfl, hb⟩ := hrel
          obtain ⟨w1r, hw1r⟩ : ∃ W, W = wr := ⟨_, rfl⟩
          subst hw1r
          by_cases hbn : b < m.plans.length
          · have hbl : (b : Int) < (m.plans.length : Int) := by omega
            obtain ⟨p, hp⟩ : ∃ p, m.plans[b]? = some p := ⟨_, List.getElem?_eq_getElem hbn⟩
            obtain ⟨bS8, oS8, A8, c8, hAS8, hbS8, q8_0, q8_1, hrow8⟩ := RowP.at_ (H9.out.below hb) hp
            subst hAS8
            obtain ⟨w8, hw8⟩ : ∃ W, W = w1r.alloc (.cells #[.int .i64 p.id, .slice A8 p.ports.length c8] 61) := ⟨_, rfl⟩
            have bb8 : Below w1r.heap.size w1r w8 := by rw [hw8]; exact (Below.refl _ _).alloc (Nat.le_refl _) _
            have b8 := Lib.hid (bt hb bb8)
            have X8 := Lib.hid (show Bx w8 w1r.heap.size 61 #[.int .i64 p.id, .slice A8 p.ports.length c8] by rw [hw8]; exact Bx.new _ _ _ rfl)
            have R8 := Lib.hid (hrow8.below bb8)
            clear hrow8
            have hpp := Lib.hid (show pl m b = p by have := plan_get hbn; rw [hp] at this; exact (Option.some.inj this).symm)
            have hpl := hpm.out p (List.mem_of_getElem? hp)
            replace hp := Lib.hid hp
            clear hb bb8
            go_upto_region 22 with fail
            rw [← hw8]
            clear hw8 q8_0 q8_1 hbS8
            have o8_0 := X8.out.c (i := 0) rfl
            have o8_1 := X8.out.c (i := 1) rfl
            have zz8 := X8.out.lt
            have hob := Lib.hid (opens_get hbn)
            have hbo : (b : Int) < (m.opens.length : Int) := by rw [hol.out]; exact hbl
            go_wp2_with fail
            clear o8_0 o8_1 zz8
            go_loopw [94] (fun i wk => ∃ j : Nat, j ≤ p.ports.length ∧ i = .int .i64 j ∧ Below w8.heap.size w8 wk) (fun i _ => p.ports.length - (intOf i).toNat)
            case atStart => exact ⟨0, by omega, rfl, Below.refl _ _⟩
            case round =>
              obtain ⟨j, hj, rfl, hb⟩ := hrel
              obtain ⟨wj, hwj⟩ : ∃ W, W = wr := ⟨_, rfl⟩
              subst hwj
              by_cases hjn : j < p.ports.length
              · have hjl : (j : Int) < (p.ports.length : Int) := by omega
                have hoa := opens_at (l := m) (b := b) (k := j) (by rw [hpp.out]; exact hjn)
                have hup := Lib.hid (fun h => opn_up (l := m) (b := b) (k := j) h)
                obtain ⟨vo, hvo⟩ : ∃ v, opn m b j = v := ⟨_, rfl⟩
                rw [hvo] at hoa hup
                replace hvo := Lib.hid hvo
                replace hoa := Lib.hid hoa
                obtain ⟨y, hy⟩ : ∃ y, p.ports[j]? = some y := ⟨_, List.getElem?_eq_getElem hjn⟩
                obtain ⟨bS7, oS7, hAS7, hbS7, q7_0, q7_1, q7_2⟩ := Row.kat (R8.out.below hb) hy
                subst hAS7
                obtain ⟨w7, hw7⟩ : ∃ W, W = wj.alloc (.cells #[.int .i64 y.seg, .int .i64 y.cost, .bool y.up] 63) := ⟨_, rfl⟩
                have bb7 : Below wj.heap.size wj w7 := by rw [hw7]; exact (Below.refl _ _).alloc (Nat.le_refl _) _
                have b7 := Lib.hid (bt hb bb7)
                have X7 := Lib.hid (show Bx w7 wj.heap.size 63 #[.int .i64 y.seg, .int .i64 y.cost, .bool y.up] by rw [hw7]; exact Bx.new _ _ _ rfl)
                have hpy := Lib.hid (show prt m b j = y by have h9 := ports_get (l := m) (b := b) (k := j) (by rw [hpp.out]; exact hjn); rw [hpp.out, hy] at h9; exact (Option.some.inj h9).symm)
                replace hy := Lib.hid hy
                clear hb bb7
                go_upto_region 25 with fail
                rw [← hw7]
                clear hw7 q7_0 q7_1 q7_2 hbS7
                have o7_0 := X7.out.c (i := 0) rfl
                have o7_1 := X7.out.c (i := 1) rfl
                have o7_2 := X7.out.c (i := 2) rfl
                have zz7 := X7.out.lt
                obtain ⟨b1, o1, A5, c5, hCC, hb1, u0, ROW⟩ := (O9.out.below (bt b8.out b7.out)).at_ hob.out
                subst hCC
                obtain ⟨b3, o3, hA5, hb3, u3⟩ := ROW.bat hoa.out
                subst hA5
                have hrl9 : ((rolesB m b).map isOp).length = p.ports.length := by unfold rolesB; rw [List.length_map, List.length_map, List.length_range, hpp.out]
                rw [hrl9] at u0
                replace hrl9 := Lib.hid hrl9
                replace ROW := Lib.hid ROW
                obtain ⟨uy, huy⟩ : ∃ u, y.up = u := ⟨_, rfl⟩
                rw [huy] at o7_2
                have hud := Lib.hid (show vo = true → uy = true from fun h => by rw [← huy, ← hpy.out]; exact hup.out h)
                replace huy := Lib.hid huy
                cases vo
                · go_wp2_with fail
                  go_roundw
                  case rel => exact ⟨j + 1, by omega, by go_num, b7.out⟩
                  case measure => simp [intOf]; omega
                · have hu1 := hud.out rfl
                  subst hu1
                  go_wp2_with fail
                  go_roundw
                  case rel => exact ⟨j + 1, by omega, by go_num, b7.out⟩
                  case measure => simp [intOf]; omega
              · obtain rfl : j = p.ports.length := by omega
                have b7 := Lib.hid (bt b8.out hb)
                clear hb
                go_wp2_with fail
                go_roundw
                case rel => exact ⟨b + 1, by omega, by go_num, b7.out⟩
                case measure => simp [intOf]; omega
          · obtain rfl : b = m.plans.length := by omega
            have BE := Lib.hid (bt B9.out hb)
            clear hb
            go_wp2_with fail
            go_ret
            exact ⟨rfl, BE.out⟩
theorem spans_go (v : Value) {w : World} (hv : InLan w v)  : Calls Try.prog 4 #[v] w (True1 w) := by
  obtain ⟨l, A, c, B, d, rfl, hr⟩ := hv
  exact spans_law hr
end Go.Proofs.Ytplgaenfcaphnaa.LanP
