/-
  WheelSteps whole.
-/
import Derived.Test.YtdieoecpacplmaaWheelU
namespace Go.Proofs.Ytdieoecpacplmaa.WheelP
open Go.RowKit Go.Sort Go.Proofs.Ytdieoecpacplmaa.SliceP Go.Proofs.Ytdieoecpacplmaa.MacP
set_option linter.unusedVariables false
set_option maxRecDepth 100000

theorem u64_pos (n : Int) : 0 ≤ IntKind.u64.wrap n := by
  have e : IntKind.u64.wrap n = n % 18446744073709551616 := rfl
  rw [e]; omega
theorem cut_bd (n m : Int) (h0 : 0 < m) (h1 : m ≤ 1099511627776) : 0 ≤ wrap64 ((IntKind.u64.wrap n).tmod m) ∧ wrap64 ((IntKind.u64.wrap n).tmod m) < m := by
  have h2 := u64_pos n
  have e : (IntKind.u64.wrap n).tmod m = IntKind.u64.wrap n % m := Int.tmod_eq_emod_of_nonneg h2
  have h3 := Int.emod_nonneg (IntKind.u64.wrap n) (show m ≠ 0 by omega)
  have h4 := Int.emod_lt_of_pos (IntKind.u64.wrap n) h0
  rw [e]
  have e2 : wrap64 (IntKind.u64.wrap n % m) = IntKind.u64.wrap n % m := IntWalk.wrap64_in _ (by omega)
  rw [e2]
  exact ⟨h3, h4⟩
theorem sorted_at {l : List T} (h : SortedT l) {j : Nat} {x y : T} (hy : l[j]? = some y) (hx : l[j + 1]? = some x) : y.due ≤ x.due := by
  have h' : l.Pairwise fun x y => x.due ≤ y.due := h
  rw [List.pairwise_iff_getElem] at h'
  have hj := (List.getElem?_eq_some_iff.1 hy).1
  have hk := (List.getElem?_eq_some_iff.1 hx).1
  have := h' j (j + 1) hj hk (by omega)
  rw [List.getElem?_eq_getElem hj] at hy
  rw [List.getElem?_eq_getElem hk] at hx
  rw [← Option.some.inj hy, ← Option.some.inj hx]
  exact this
theorem SortedT.sub {l m : List T} (h : SortedT l) (hs : m.Sublist l) : SortedT m := List.Pairwise.sublist hs h

set_option maxHeartbeats 8000000 in
theorem steps_law (v : Value) (now more : Int) {w : World} (h : InT w v) (_h0 : (Lit.int .i64 now).wf = true) (_h1 : (Lit.int .i64 more).wf = true) :
    Calls Try.prog 4 #[v, .int .i64 now, .int .i64 more] w (True1 w) := by
  have H := Lib.hid h
  clear h
  go_enter Try.func4, Try.ntmps4
  go_wp2_with fail
  go_at_call 7
  (with_reducible refine (few_in H.out).mono ?_)
  rintro e w' ⟨A, n, c, l, rfl, hR, hl, rfl⟩
  go_wp2_with fail
  obtain ⟨t0, t1⟩ := cut_bd now 549755813888 (by omega) (by omega)
  obtain ⟨m0, m1⟩ := cut_bd more 549755813888 (by omega) (by omega)
  generalize wrap64 ((IntKind.u64.wrap now).tmod 549755813888) = t at *
  generalize wrap64 ((IntKind.u64.wrap more).tmod 549755813888) = m at *
  have hn := hR.len
  have hl1000 : l.length ≤ 1000 := by omega
  cases hr : rightB l
  case false =>
    replace hR := Lib.hid hR
    replace hr := Lib.hid hr
    clear hn
    go_at_call 10
    (with_reducible refine (advance_bad hR.out hl1000 t hr.out).mono ?_)
    rintro e w1 ⟨A1, c1, A2, c2, rfl, o1, o2, hb1⟩
    clear o1 o2
    go_wp2_with fail
    go_at_call 14
    (with_reducible refine (alive_any _).mono ?_)
    rintro e w2 ⟨rfl, hb2⟩
    have B2 := bt hb1 hb2
    clear hb1 hb2
    go_wp2_with fail
    go_ret
    exact ⟨rfl, B2⟩
  case true =>
    have hg := good_of_right hr
    have ht := Lib.hid (show timeB t = true by unfold timeB; simp; omega)
    obtain ⟨u, hu⟩ : ∃ u, t + m = u := ⟨_, rfl⟩
    have hut := Lib.hid (show timeB u = true by unfold timeB; simp; omega)
    have htu : t ≤ u := by omega
    have hwu : IntKind.i64.wrap (t + m) = u := by rw [IntWalk.i64_in _ (by omega), hu]
    obtain ⟨D1, hD1⟩ : ∃ D, leT l t = D := ⟨_, rfl⟩
    obtain ⟨G1, hG1⟩ : ∃ G, gtT l t = G := ⟨_, rfl⟩
    obtain ⟨D2, hD2⟩ : ∃ D, leT G1 u = D := ⟨_, rfl⟩
    obtain ⟨D, hD⟩ : ∃ D, leT l u = D := ⟨_, rfl⟩
    obtain ⟨G, hG⟩ : ∃ G, gtT l u = G := ⟨_, rfl⟩
    have hGG : gtT G1 u = G := by rw [← hG1, ← hG]; exact gt_gt l htu
    have hDD : D1 ++ D2 = D := by rw [← hD1, ← hD2, ← hD, ← hG1]; exact le_le htu hg.sorted
    have hsum : D.length + G.length = n := by rw [hn, ← hD, ← hG]; exact le_gt_len hg.sorted
    have hg1 : Good G1 := by rw [← hG1]; exact hg.sub (gtT_sub l t)
    have hDs : SortedT D := by rw [← hD]; exact hg.sorted.sub (leT_sub l u)
    have hDle : ∀ x ∈ D, x.due ≤ u := fun x hx => by rw [← hD] at hx; exact (leT_mem.1 hx).2
    have hGgt : ∀ x ∈ G, u < x.due := fun x hx => by rw [← hG] at hx; exact (gtT_mem.1 hx).2
    have hD1l : D1.length ≤ 70 := by have := (leT_sub l t).length_le; rw [hD1] at this; omega
    have hD2l : D1.length + D2.length ≤ 140 := by have := congrArg List.length hDD; rw [List.length_append] at this; omega
    have hDl : D.length ≤ 70 := by omega
    have hGl : G.length ≤ 70 := by omega
    have hs1 : (((D.length : Int) + (G.length : Int)) == (n : Int)) = true := by simp; omega
    have hs2 : (((D.length : Int) + (G.length : Int)) != (n : Int)) = false := by simp; omega
    have hr1 := Lib.hid (right_of_good hg1)
    have hG1l : G1.length ≤ 1000 := by have := hg1.len; omega
    have hG1000 : G.length ≤ 1000 := by omega
    have hn1 : Hid ((([] : List T).map T.cells).length + (D1.map T.cells).length ≤ 1000000) := Lib.hid (by rw [flatT_length, flatT_length]; simp; omega)
    have hn2 : Hid (((([] : List T) ++ D1).map T.cells).length + (D2.map T.cells).length ≤ 1000000) := Lib.hid (by rw [flatT_length, flatT_length]; simp; omega)
    have hDD1000 : D.length ≤ 1000 := by omega
    replace hR := Lib.hid hR
    replace hr := Lib.hid hr
    replace hg := Lib.hid hg
    replace hg1 := Lib.hid hg1
    replace hD1 := Lib.hid hD1
    replace hG1 := Lib.hid hG1
    replace hD2 := Lib.hid hD2
    replace hD := Lib.hid hD
    replace hG := Lib.hid hG
    replace hGG := Lib.hid hGG
    replace hDD := Lib.hid hDD
    replace hsum := Lib.hid hsum
    replace hDs := Lib.hid hDs
    replace hDle := Lib.hid hDle
    replace hGgt := Lib.hid hGgt
    replace hu := Lib.hid hu
    clear hn
    go_at_call 10
    (with_reducible refine (advance_good hR.out t hg.out ht.out).mono ?_)
    rw [hD1.out, hG1.out]
    rintro e w1 ⟨A1, c1, A2, c2, rfl, o1, o2, hb1⟩
    have RA := Lib.hid (own_row o1)
    have RF := Lib.hid (own_row o2)
    have RL := Lib.hid (hR.out.below hb1)
    clear o1 o2 hR
    go_wp2_with fail
    go_at_call 10
    (with_reducible refine (advance_good RA.out u hg1.out hut.out).mono ?_)
    rw [hGG.out, hD2.out]
    rintro e w2 ⟨A3, c3, A4, c4, rfl, o3, o4, hb2⟩
    have B2 := bt hb1 hb2
    have RA2 := Lib.hid (RA.out.below hb2)
    have RF2 := Lib.hid (RF.out.below hb2)
    have RL2 := Lib.hid (RL.out.below hb2)
    have RB2 := Lib.hid (own_row o3)
    have RT2 := Lib.hid (own_row o4)
    clear o3 o4 RA RF RL hb1 hb2
    go_wp2_with fail
    go_at_call 10
    (with_reducible refine (advance_good RL2.out u hg.out hut.out).mono ?_)
    rw [hG.out, hD.out]
    rintro e w3 ⟨A5, c5, A6, c6, rfl, o5, o6, hb3⟩
    have B3 := bt B2 hb3
    have RA3 := Lib.hid (RA2.out.below hb3)
    have RF3 := Lib.hid (RF2.out.below hb3)
    have RT3 := Lib.hid (RT2.out.below hb3)
    have RB3 := Lib.hid (RB2.out.below hb3)
    have RC3 := Lib.hid (own_row o5)
    have RD3 := Lib.hid (own_row o6)
    clear o5 o6 RA2 RF2 RL2 RB2 RT2 hb3 B2
    go_wp2_with fail
    go_at_call 17
    (with_reducible refine (same_true RB3.out RC3.out rfl hG1000).mono ?_)
    rintro e w4 ⟨rfl, hb4⟩
    have B4 := bt B3 hb4
    have RA4 := Lib.hid (RA3.out.below hb4)
    have RF4 := Lib.hid (RF3.out.below hb4)
    have RT4 := Lib.hid (RT3.out.below hb4)
    have RB4 := Lib.hid (RB3.out.below hb4)
    have RD4 := Lib.hid (RD3.out.below hb4)
    clear RA3 RF3 RT3 RB3 RC3 RD3 hb4 B3
    have aE : Below w4.heap.size w4 (w4.alloc (.cells #[] 24)) := (Below.refl _ _).alloc (Nat.le_refl _) _
    have ownE := Lib.hid (own_made w4)
    have RFE := Lib.hid (RF4.out.below aE)
    have hBE : Hid (w4.heap.size ≤ (w4.alloc (.cells #[] 24)).heap.size) := Lib.hid aE.size
    go_wp2_with (first
      | (at_builtin; (refine wpList_append_sl_g (by rfl) (.tmp 80) (.tmp 81) 22 rfl elT (by rfl) ownE.out (by rfl) (flatT_length D1).symm RFE.out.sl (whole D1) RFE.out.nil hn1.out hBE.out ?_); intro v5 w5 own5 grow5 hor5; rw [← List.map_append] at own5; have B5 := Lib.hid (aE.grown grow5 aE.size (fun j hj => (ownE.out.lt j hj).1)); have RT5 := Lib.hid (RT4.out.below B5.out); have own5' := Lib.hid own5; have hB5 : Hid (w4.heap.size ≤ w5.heap.size) := Lib.hid B5.out.size; clear own5 grow5 hor5)
      | (at_builtin; (refine wpList_append_sl_g (by rfl) (.tmp 82) (.tmp 83) 22 rfl elT (by rfl) own5'.out (by rfl) (flatT_length D2).symm RT5.out.sl (whole D2) RT5.out.nil hn2.out hB5.out ?_); intro v6 w6 own6 grow6 hor6; rw [← List.map_append, List.nil_append, hDD.out] at own6; have B6 := Lib.hid (B5.out.grown grow6 B5.out.size (fun j hj => (own5'.out.lt j hj).1)); obtain ⟨A7, c7, hv7, _⟩ := own_form own6; replace own6 := Lib.hid own6; replace hv7 := Lib.hid hv7; clear grow6 hor6))
    rw [hv7.out]
    have RX := own6.out
    rw [hv7.out] at RX
    replace RX := Lib.hid (own_row RX)
    have RD6 := Lib.hid (RD4.out.below B6.out)
    go_at_call 17
    (with_reducible refine (same_true RX.out RD6.out rfl hDD1000).mono ?_)
    rintro e w7 ⟨rfl, hb7⟩
    have b7 := bt B6.out hb7
    have B7 := bt B4 b7
    have RA7 := Lib.hid (RA4.out.below b7)
    have RB7 := Lib.hid (RB4.out.below b7)
    have RD7 := Lib.hid (RD4.out.below b7)
    clear RA4 RF4 RT4 RB4 RD4 aE ownE RFE hBE B5 RT5 own5' hB5 B6 own6 hv7 RX RD6 hb7 b7 B4
    go_wp2_with fail
    go_at_call 13
    (with_reducible refine (right_any RA7.out hG1l _ hr1.out).mono ?_)
    rintro e w8 ⟨rfl, hb8⟩
    have B8 := bt B7 hb8
    have RB8 := Lib.hid (RB7.out.below hb8)
    have RD8 := Lib.hid (RD7.out.below hb8)
    clear hb8 B7 RA7 RB7 RD7
    go_wp2_with fail
    go_at_call 14
    (with_reducible refine (alive_any _).mono ?_)
    rintro e w9 ⟨rfl, hb9⟩
    have B9 := bt B8 hb9
    have RB9 := Lib.hid (RB8.out.below hb9)
    have RD9 := Lib.hid (RD8.out.below hb9)
    clear hb9 B8 RB8 RD8
    have hu1 : u ≤ 1099511627776 := by have := hu.out; omega
    go_wp2_with fail
    go_loopw [110] (fun i wr => ∃ k : Nat, k ≤ D.length ∧ i = .int .i64 k ∧ Below w9.heap.size w9 wr) (fun i _ => D.length - (intOf i).toNat)
    case atStart => exact ⟨0, by omega, rfl, Below.refl _ _⟩
    case round =>
      obtain ⟨k, hk, rfl, hb⟩ := hrel
      have hs := hb.size
      by_cases hlk : k < D.length
      case neg =>
        obtain rfl : k = D.length := by omega
        have B10 := bt B9 hb
        have RB10 := Lib.hid (RB9.out.below hb)
        clear hb
        go_wp2_with fail
        go_loopw [139] (fun i wi => ∃ k : Nat, k ≤ G.length ∧ i = .int .i64 k ∧ Below wr.heap.size wr wi) (fun i _ => G.length - (intOf i).toNat)
        case atStart => exact ⟨0, by omega, rfl, Below.refl _ _⟩
        case round =>
          obtain ⟨k, hk, rfl, hb⟩ := hrel
          have hs := hb.size
          by_cases hlk : k < G.length
          · obtain ⟨x, hx⟩ : ∃ x, G[k]? = some x := ⟨_, List.getElem?_eq_getElem hlk⟩
            obtain ⟨b, f, rfl, hbw, x0, x1⟩ := SlT.at_ RB10.out.sl hx
            replace x0 := (hb.cell (p := ⟨b, _, none⟩) hbw).trans x0
            replace x1 := (hb.cell (p := ⟨b, _, none⟩) hbw).trans x1
            have hxu := hGgt.out x (List.mem_of_getElem? hx)
            clear hx
            go_wp2_with fail
            go_roundw
            case rel => exact ⟨k + 1, by omega, by go_num, hb.alloc hs _⟩
            case measure => simp [intOf]; omega
          · obtain rfl : k = G.length := by omega
            have B11 := bt B10 hb
            clear hb
            go_wp2_with fail
            go_ret
            exact ⟨rfl, B11⟩
      obtain ⟨x, hx⟩ : ∃ x, D[k]? = some x := ⟨_, List.getElem?_eq_getElem hlk⟩
      obtain ⟨b, f, rfl, hbw, x0, x1⟩ := SlT.at_ RD9.out.sl hx
      replace x0 := (hb.cell (p := ⟨b, _, none⟩) hbw).trans x0
      replace x1 := (hb.cell (p := ⟨b, _, none⟩) hbw).trans x1
      have hxu : x.due ≤ u := hDle.out x (List.mem_of_getElem? hx)
      have hb2 : b < wr.heap.size := Nat.lt_of_lt_of_le hbw hb.size
      match k, hk with
      | 0, _ =>
        clear hx
        rw [Nat.zero_mul, Nat.add_zero] at x0 x1
        go_wp2_with fail
        obtain ⟨W1, hW1⟩ : ∃ W1, W1 = wr.alloc (.cells #[.int .i64 x.id, .int .i64 x.due] 24) := ⟨_, rfl⟩
        have BW1 : Below w9.heap.size w9 W1 := by rw [hW1]; exact hb.alloc hb.size _
        have x0_W1 : W1.cell? ⟨b, f, none⟩ = some (.int .i64 x.id) := by rw [hW1, World.cell?_alloc_lt _ _ _ (show b < wr.heap.size from hb2)]; exact x0
        have x1_W1 : W1.cell? ⟨b, f + 1, none⟩ = some (.int .i64 x.due) := by rw [hW1, World.cell?_alloc_lt _ _ _ (show b < wr.heap.size from hb2)]; exact x1
        clear x0 x1
        have hzW1 : W1.heap.size = wr.heap.size + 1 := by rw [hW1]; simp
        have zW1_7 : b < W1.heap.size := by rw [hzW1]; have := hb2; omega
        clear hb2
        have z0_W1 : W1.cell? ⟨wr.heap.size, 0, none⟩ = some (.int .i64 x.id) := by rw [hW1]; go_simp
        have z1_W1 : W1.cell? ⟨wr.heap.size, 1, none⟩ = some (.int .i64 x.due) := by rw [hW1]; go_simp
        have znW1 : wr.heap.size < W1.heap.size := by rw [hzW1]; omega
        rw [← hW1]
        clear hW1 hzW1 hb
        generalize wr.heap.size = nW1 at *
        go_wp2_with fail
        have K_x0 := cell_regrown x0_W1
        have K_x1 := cell_regrown x1_W1
        have K_z0 := cell_regrown z0_W1
        have K_z1 := cell_regrown z1_W1
        clear x0_W1 x1_W1 z0_W1 z1_W1
        refine wp_region_quiet_below (by kernel_rfl) (by kernel_rfl) ?_
        repeat (first | go_big_quiet_step (fail) | quiet_step (fail))
        refine wpQuiet_nil ?_
        intro _ hw'
        obtain ⟨⟨dq, osq⟩, hw''⟩ := hw'
        subst hw''
        have hbW2 := below_regrown W1 dq osq
        have x0_W2 := K_x0 dq osq
        have x1_W2 := K_x1 dq osq
        have z0_W2 := K_z0 dq osq
        have z1_W2 := K_z1 dq osq
        clear K_x0 K_x1 K_z0 K_z1 
        have zW2_33 : b < (Go.Sort.grow (redrawn W1 dq) osq).heap.size := Nat.lt_of_lt_of_le zW1_7 hbW2.size
        clear zW1_7
        have zW2_35 : nW1 < (Go.Sort.grow (redrawn W1 dq) osq).heap.size := Nat.lt_of_lt_of_le znW1 hbW2.size
        clear znW1
        have BW2 : Below w9.heap.size w9 (Go.Sort.grow (redrawn W1 dq) osq) := BW1.trans (hbW2.mono BW1.size)
        clear hbW2 BW1
        generalize Go.Sort.grow (redrawn W1 dq) osq = W2 at *
        go_wp2_with fail
        go_roundw
        case rel => exact ⟨0 + 1, by omega, by go_num, BW2⟩
        case measure => simp [intOf]; omega
      | j + 1, _ =>
        obtain ⟨y, hy⟩ : ∃ y, D[j]? = some y := ⟨_, List.getElem?_eq_getElem (by omega)⟩
        obtain ⟨b', o', e, _, y0, y1⟩ := SlT.at_ RD9.out.sl hy
        obtain ⟨rfl, rfl⟩ : b = b' ∧ f = o' := by simpa using e
        clear e
        replace y0 := (hb.cell (p := ⟨b, _, none⟩) (by assumption)).trans y0
        replace y1 := (hb.cell (p := ⟨b, _, none⟩) (by assumption)).trans y1
        have hyx := sorted_at hDs.out hy hx
        clear hx hy
        have hwr : IntKind.i64.wrap ((j : Int) + 1 - 1) = (j : Int) := IntWalk.i64_in _ (by omega) |>.trans (by omega)
        have hjl : (j : Int) < (D.length : Int) := by omega
        have hj0 : (0 : Int) ≤ (j : Int) := by omega
        go_wp2_with fail
        obtain ⟨W1, hW1⟩ : ∃ W1, W1 = wr.alloc (.cells #[.int .i64 x.id, .int .i64 x.due] 24) := ⟨_, rfl⟩
        have BW1 : Below w9.heap.size w9 W1 := by rw [hW1]; exact hb.alloc hb.size _
        have x0_W1 : W1.cell? ⟨b, f + (j + 1) * 2, none⟩ = some (.int .i64 x.id) := by rw [hW1, World.cell?_alloc_lt _ _ _ (show b < wr.heap.size from hb2)]; exact x0
        have x1_W1 : W1.cell? ⟨b, f + (j + 1) * 2 + 1, none⟩ = some (.int .i64 x.due) := by rw [hW1, World.cell?_alloc_lt _ _ _ (show b < wr.heap.size from hb2)]; exact x1
        have y0_W1 : W1.cell? ⟨b, f + j * 2, none⟩ = some (.int .i64 y.id) := by rw [hW1, World.cell?_alloc_lt _ _ _ (show b < wr.heap.size from hb2)]; exact y0
        have y1_W1 : W1.cell? ⟨b, f + j * 2 + 1, none⟩ = some (.int .i64 y.due) := by rw [hW1, World.cell?_alloc_lt _ _ _ (show b < wr.heap.size from hb2)]; exact y1
        clear x0 x1 y0 y1
        have hzW1 : W1.heap.size = wr.heap.size + 1 := by rw [hW1]; simp
        have zW1_9 : b < W1.heap.size := by rw [hzW1]; have := hb2; omega
        clear hb2
        have z0_W1 : W1.cell? ⟨wr.heap.size, 0, none⟩ = some (.int .i64 x.id) := by rw [hW1]; go_simp
        have z1_W1 : W1.cell? ⟨wr.heap.size, 1, none⟩ = some (.int .i64 x.due) := by rw [hW1]; go_simp
        have znW1 : wr.heap.size < W1.heap.size := by rw [hzW1]; omega
        rw [← hW1]
        clear hW1 hzW1 hb
        generalize wr.heap.size = nW1 at *
        go_wp2_with fail
        have K_x0 := cell_regrown x0_W1
        have K_x1 := cell_regrown x1_W1
        have K_y0 := cell_regrown y0_W1
        have K_y1 := cell_regrown y1_W1
        have K_z0 := cell_regrown z0_W1
        have K_z1 := cell_regrown z1_W1
        clear x0_W1 x1_W1 y0_W1 y1_W1 z0_W1 z1_W1
        refine wp_region_quiet_below (by kernel_rfl) (by kernel_rfl) ?_
        repeat (first | go_big_quiet_step (fail) | quiet_step (fail))
        refine wpQuiet_nil ?_
        intro _ hw'
        obtain ⟨⟨dq, osq⟩, hw''⟩ := hw'
        subst hw''
        have hbW2 := below_regrown W1 dq osq
        have x0_W2 := K_x0 dq osq
        have x1_W2 := K_x1 dq osq
        have y0_W2 := K_y0 dq osq
        have y1_W2 := K_y1 dq osq
        have z0_W2 := K_z0 dq osq
        have z1_W2 := K_z1 dq osq
        clear K_x0 K_x1 K_y0 K_y1 K_z0 K_z1 
        have zW2_39 : b < (Go.Sort.grow (redrawn W1 dq) osq).heap.size := Nat.lt_of_lt_of_le zW1_9 hbW2.size
        clear zW1_9
        have zW2_41 : nW1 < (Go.Sort.grow (redrawn W1 dq) osq).heap.size := Nat.lt_of_lt_of_le znW1 hbW2.size
        clear znW1
        have BW2 : Below w9.heap.size w9 (Go.Sort.grow (redrawn W1 dq) osq) := BW1.trans (hbW2.mono BW1.size)
        clear hbW2 BW1
        generalize Go.Sort.grow (redrawn W1 dq) osq = W2 at *
        go_wp2_with fail
        go_roundw
        case rel => exact ⟨j + 1 + 1, by omega, by go_num, BW2⟩
        case measure => simp [intOf]; omega
end Go.Proofs.Ytdieoecpacplmaa.WheelP
