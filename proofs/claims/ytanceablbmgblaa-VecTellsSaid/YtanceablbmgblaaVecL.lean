/-
  The walk of VecBest.
-/
import Derived.Test.YtanceablbmgblaaVecK
namespace Go.Proofs.Ytanceablbmgblaa.VecP
open Go.RowKit Go.Sort Go.Proofs.Ytanceablbmgblaa.SliceP
set_option linter.unusedVariables false
set_option maxRecDepth 100000

set_option maxHeartbeats 4000000 in
theorem vbest_good (b o cap : Nat) (L l : List V) (w : World) (hL : L.length ≤ cap) (hc : cap ≤ 9223372036854775807) (e : min L.length 60 = l.length) (h : SlV w (some ⟨b, o, none⟩) l) (hbw : b < w.heap.size) (h0 : 0 < l.length) (hok : l.all V.ok = true) :
    Calls Try.prog 6 #[.slice (some ⟨b, o, none⟩) L.length cap] w fun e w' => e = .returned (.bool true) ∧ Below w.heap.size w w' := by
  have hl : l.length ≤ 60 := by omega
  have hlc : l.length ≤ cap := by omega
  obtain ⟨y, hy⟩ : ∃ y, l[bestI l l.length]? = some y := ⟨_, List.getElem?_eq_getElem (bestI_lt l _ (Nat.le_refl _) h0)⟩
  have hm := bestI_lt l _ (Nat.le_refl _) h0
  obtain ⟨hsp1, hsp2⟩ := bestI_spec l l.length (Nat.le_refl _) y hy
  obtain ⟨y0, hy0⟩ : ∃ y0, (msort l)[0]? = some y0 := ⟨_, List.getElem?_eq_getElem (by rw [msort_length]; exact h0)⟩
  obtain rfl := msort_head hy0 hy
  have E := Lib.hid e
  have H := Lib.hid h
  have HA := Lib.hid hok
  have Hy := Lib.hid hy
  have Hy0 := Lib.hid hy0
  have S1 := Lib.hid hsp1
  have S2 := Lib.hid hsp2
  have hsl := Lib.hid (msort_length l)
  have hde := Lib.hid (diff_end l)
  have hnx := Lib.hid (fun i x z (h1 : (msort l)[i]? = some x) (h2 : (msort l)[i + 1]? = some z) => msort_next h1 h2)
  have hyok : V.ok y0 = true := List.all_eq_true.1 hok y0 (List.mem_of_getElem? hy)
  have HV := Lib.hid (fun (i : Nat) (x : V) (hx : l[i]? = some x) => List.all_eq_true.1 hok x (List.mem_of_getElem? hx))
  have HVs := Lib.hid (fun (i : Nat) (x : V) (hx : (msort l)[i]? = some x) => List.all_eq_true.1 hok x ((msort_perm l).subset (List.mem_of_getElem? hx)))
  have HYok := Lib.hid hyok
  clear h hok e hy hy0 hsp1 hsp2 hyok
  go_enter Try.func6, Try.ntmps6
  go_wp2_with fail
  go_at_call 7
  (with_reducible refine (few_any _ _ _ _ hL hc).mono ?_)
  rintro e w' ⟨rfl, rfl⟩
  rw [E.out]
  go_wp2_with fail
  go_at_call 10
  (with_reducible refine (best_good _ _ _ _ (by omega) h0 H.out HA.out).mono ?_)
  rintro e w1 ⟨rfl, hb1⟩
  have H1 := Lib.hid (H.out.below hb1)
  have hbw1 := Nat.lt_of_lt_of_le hbw hb1.size
  clear H
  go_wp2_with fail
  go_at_call 11
  (with_reducible refine (sort_good _ _ _ _ (by omega) h0 hlc H1.out HA.out).mono ?_)
  rintro e w2 ⟨⟨g, c, rfl, hS⟩, hb2⟩
  have H2 := Lib.hid (H1.out.below hb2)
  have hbw2 := Nat.lt_of_lt_of_le hbw1 hb2.size
  have B2 : Below w.heap.size w w2 := hb1.trans (hb2.mono hb1.size)
  clear H1 hb1 hb2 hbw hbw1
  rw [hsl.out]
  replace hS := Lib.hid hS
  obtain ⟨s, hs⟩ : ∃ s, msort l = s := ⟨_, rfl⟩
  rw [hs] at hS Hy0 hsl hde hnx HVs
  clear hs
  obtain ⟨m, hmm⟩ : ∃ m, bestI l l.length = m := ⟨_, rfl⟩
  rw [hmm] at hm Hy S2
  rw [hmm]
  clear hmm
  have hm' : (m : Int) < (l.length : Int) := by omega
  have hm0 : (0 : Int) ≤ (m : Int) := by omega
  obtain ⟨g', o', eg, hgw, s0, s1, s2, s3⟩ := hS.out.at_ Hy0.out
  obtain ⟨rfl, rfl⟩ : g = g' ∧ 0 = o' := by simpa using eg
  clear eg
  simp only [Nat.zero_mul, Nat.zero_add] at s0 s1 s2 s3
  obtain ⟨b', o', eb, _, y0', y1', y2', y3'⟩ := H2.out.at_ Hy.out
  obtain ⟨rfl, rfl⟩ : b = b' ∧ o = o' := by simpa using eb
  clear eb
  go_wp2_with fail
  have K_s0 := cell_regrown s0
  have K_s1 := cell_regrown s1
  have K_s2 := cell_regrown s2
  have K_s3 := cell_regrown s3
  have K_y0 := cell_regrown y0'
  have K_y1 := cell_regrown y1'
  have K_y2 := cell_regrown y2'
  have K_y3 := cell_regrown y3'
  clear s0 s1 s2 s3 y0' y1' y2' y3'
  have cC0 := fun (d : Nat) (os : Array Obj) => Calls.regrown_of (alive_any (Go.Sort.grow (redrawn w2 d) os))
  refine wp_region_quiet_below (by kernel_rfl) (by kernel_rfl) ?_
  repeat (first | go_big_quiet_step (exact cC0 _ _) | quiet_step (exact cC0 _ _))
  refine wpQuiet_nil ?_
  intro _ hw'
  obtain ⟨⟨dq, osq⟩, hw''⟩ := hw'
  subst hw''
  have hbW1 := below_regrown w2 dq osq
  have s0_W1 := K_s0 dq osq
  have s1_W1 := K_s1 dq osq
  have s2_W1 := K_s2 dq osq
  have s3_W1 := K_s3 dq osq
  have y0_W1 := K_y0 dq osq
  have y1_W1 := K_y1 dq osq
  have y2_W1 := K_y2 dq osq
  have y3_W1 := K_y3 dq osq
  clear K_s0 K_s1 K_s2 K_s3 K_y0 K_y1 K_y2 K_y3 cC0 
  have zW1_27 : b < (Go.Sort.grow (redrawn w2 dq) osq).heap.size := Nat.lt_of_lt_of_le hbw2 hbW1.size
  clear hbw2
  have zW1_29 : g < (Go.Sort.grow (redrawn w2 dq) osq).heap.size := Nat.lt_of_lt_of_le hgw hbW1.size
  clear hgw
  have H_W1 := Lib.hid (H2.out.below hbW1)
  clear H2
  have HS_W1 := Lib.hid (hS.out.below hbW1)
  clear hS
  have BW1 : Below w.heap.size w (Go.Sort.grow (redrawn w2 dq) osq) := B2.trans (hbW1.mono B2.size)
  clear hbW1 B2
  generalize Go.Sort.grow (redrawn w2 dq) osq = W1 at *
  clear s0_W1
  clear s1_W1
  clear s2_W1
  clear s3_W1
  go_wp2_with fail
  go_loopw [92] (fun i wr => ∃ k : Nat, k ≤ l.length ∧ i = .int .i64 k ∧ Below W1.heap.size W1 wr) (fun i _ => l.length - (intOf i).toNat)
  case atStart => exact ⟨0, by omega, rfl, Below.refl _ _⟩
  case round =>
    obtain ⟨k, hk, rfl, hbr⟩ := hrel
    by_cases hlt : k < l.length
    case neg =>
      obtain rfl : k = l.length := by omega
      go_wp2_with fail
      go_ret
      exact ⟨rfl, BW1.trans (hbr.mono BW1.size)⟩
    obtain ⟨x, hx⟩ : ∃ x, l[k]? = some x := ⟨_, List.getElem?_eq_getElem hlt⟩
    obtain ⟨z, hz⟩ : ∃ z, s[k]? = some z := ⟨_, List.getElem?_eq_getElem (by rw [hsl.out]; exact hlt)⟩
    obtain ⟨b', o', eb, _, x0, x1, x2, x3⟩ := H_W1.out.at_ hx
    obtain ⟨rfl, rfl⟩ : b = b' ∧ o = o' := by simpa using eb
    clear eb
    have hxb := S1.out k x hlt hx
    have hxi := S2.out k x
    have hokx := Lib.hid (HV.out k x hx)
    have hoky := HYok
    replace hx := Lib.hid hx
    replace hz := Lib.hid hz
    have hxb' : Hid (betB x.r x.c x.b x.p y0.r y0.c y0.b y0.p = false) := Lib.hid hxb
    replace hxi := Lib.hid hxi
    clear hxb
    have BR := Below.refl W1.heap.size W1
    have y0_wr : wr.cell? ⟨b, o + m * 4, none⟩ = some (.int .i64 y0.r) := (hbr.cell (p := ⟨b, _, none⟩) zW1_27).trans y0_W1
    have y1_wr : wr.cell? ⟨b, o + m * 4 + 1, none⟩ = some (.int .i64 y0.c) := (hbr.cell (p := ⟨b, _, none⟩) zW1_27).trans y1_W1
    have y2_wr : wr.cell? ⟨b, o + m * 4 + 2, none⟩ = some (.int .i64 y0.b) := (hbr.cell (p := ⟨b, _, none⟩) zW1_27).trans y2_W1
    have y3_wr : wr.cell? ⟨b, o + m * 4 + 3, none⟩ = some (.int .i64 y0.p) := (hbr.cell (p := ⟨b, _, none⟩) zW1_27).trans y3_W1
    have x0_wr : wr.cell? ⟨b, o + k * 4, none⟩ = some (.int .i64 x.r) := (hbr.cell (p := ⟨b, _, none⟩) zW1_27).trans x0
    have x1_wr : wr.cell? ⟨b, o + k * 4 + 1, none⟩ = some (.int .i64 x.c) := (hbr.cell (p := ⟨b, _, none⟩) zW1_27).trans x1
    have x2_wr : wr.cell? ⟨b, o + k * 4 + 2, none⟩ = some (.int .i64 x.b) := (hbr.cell (p := ⟨b, _, none⟩) zW1_27).trans x2
    have x3_wr : wr.cell? ⟨b, o + k * 4 + 3, none⟩ = some (.int .i64 x.p) := (hbr.cell (p := ⟨b, _, none⟩) zW1_27).trans x3
    clear y0_W1 y1_W1 y2_W1 y3_W1 x0 x1 x2 x3
    have zwr_10 : b < wr.heap.size := Nat.lt_of_lt_of_le zW1_27 hbr.size
    clear zW1_27
    have zwr_12 : g < wr.heap.size := Nat.lt_of_lt_of_le zW1_29 hbr.size
    clear zW1_29
    have H_wr := Lib.hid (H_W1.out.below hbr)
    clear H_W1
    have HS_wr := Lib.hid (HS_W1.out.below hbr)
    clear HS_W1
    have Bwr : Below W1.heap.size W1 wr := BR.trans (hbr.mono BR.size)
    clear hbr BR
    go_wp2_with fail
    obtain ⟨W2, hW2⟩ : ∃ W2, W2 = wr.alloc (.cells #[.int .i64 x.r, .int .i64 x.c, .int .i64 x.b, .int .i64 x.p] 23) := ⟨_, rfl⟩
    have BW2 : Below W1.heap.size W1 W2 := by rw [hW2]; exact Bwr.alloc Bwr.size _
    have y0_W2 : W2.cell? ⟨b, o + m * 4, none⟩ = some (.int .i64 y0.r) := by rw [hW2, World.cell?_alloc_lt _ _ _ (show b < wr.heap.size from zwr_10)]; exact y0_wr
    have y1_W2 : W2.cell? ⟨b, o + m * 4 + 1, none⟩ = some (.int .i64 y0.c) := by rw [hW2, World.cell?_alloc_lt _ _ _ (show b < wr.heap.size from zwr_10)]; exact y1_wr
    have y2_W2 : W2.cell? ⟨b, o + m * 4 + 2, none⟩ = some (.int .i64 y0.b) := by rw [hW2, World.cell?_alloc_lt _ _ _ (show b < wr.heap.size from zwr_10)]; exact y2_wr
    have y3_W2 : W2.cell? ⟨b, o + m * 4 + 3, none⟩ = some (.int .i64 y0.p) := by rw [hW2, World.cell?_alloc_lt _ _ _ (show b < wr.heap.size from zwr_10)]; exact y3_wr
    have x0_W2 : W2.cell? ⟨b, o + k * 4, none⟩ = some (.int .i64 x.r) := by rw [hW2, World.cell?_alloc_lt _ _ _ (show b < wr.heap.size from zwr_10)]; exact x0_wr
    have x1_W2 : W2.cell? ⟨b, o + k * 4 + 1, none⟩ = some (.int .i64 x.c) := by rw [hW2, World.cell?_alloc_lt _ _ _ (show b < wr.heap.size from zwr_10)]; exact x1_wr
    have x2_W2 : W2.cell? ⟨b, o + k * 4 + 2, none⟩ = some (.int .i64 x.b) := by rw [hW2, World.cell?_alloc_lt _ _ _ (show b < wr.heap.size from zwr_10)]; exact x2_wr
    have x3_W2 : W2.cell? ⟨b, o + k * 4 + 3, none⟩ = some (.int .i64 x.p) := by rw [hW2, World.cell?_alloc_lt _ _ _ (show b < wr.heap.size from zwr_10)]; exact x3_wr
    clear y0_wr y1_wr y2_wr y3_wr x0_wr x1_wr x2_wr x3_wr
    have hzW2 : W2.heap.size = wr.heap.size + 1 := by rw [hW2]; simp
    have zW2_33 : b < W2.heap.size := by rw [hzW2]; have := zwr_10; omega
    clear zwr_10
    have zW2_35 : g < W2.heap.size := by rw [hzW2]; have := zwr_12; omega
    clear zwr_12
    have v0_W2 : W2.cell? ⟨wr.heap.size, 0, none⟩ = some (.int .i64 x.r) := by rw [hW2]; go_simp
    have v1_W2 : W2.cell? ⟨wr.heap.size, 1, none⟩ = some (.int .i64 x.c) := by rw [hW2]; go_simp
    have v2_W2 : W2.cell? ⟨wr.heap.size, 2, none⟩ = some (.int .i64 x.b) := by rw [hW2]; go_simp
    have v3_W2 : W2.cell? ⟨wr.heap.size, 3, none⟩ = some (.int .i64 x.p) := by rw [hW2]; go_simp
    have H_W2 := Lib.hid (H_wr.out.below (show Below wr.heap.size wr W2 by rw [hW2]; exact (Below.refl _ _).alloc (Nat.le_refl _) _))
    clear H_wr
    have HS_W2 := Lib.hid (HS_wr.out.below (show Below wr.heap.size wr W2 by rw [hW2]; exact (Below.refl _ _).alloc (Nat.le_refl _) _))
    clear HS_wr
    have znW2 : wr.heap.size < W2.heap.size := by rw [hzW2]; omega
    rw [← hW2]
    clear hW2 hzW2 Bwr
    generalize wr.heap.size = nW2 at *
    clear x0_W2
    clear x1_W2
    clear x2_W2
    clear x3_W2
    go_wp2_with fail
    have K_y0 := cell_regrown y0_W2
    have K_y1 := cell_regrown y1_W2
    have K_y2 := cell_regrown y2_W2
    have K_y3 := cell_regrown y3_W2
    have K_v0 := cell_regrown v0_W2
    have K_v1 := cell_regrown v1_W2
    have K_v2 := cell_regrown v2_W2
    have K_v3 := cell_regrown v3_W2
    clear y0_W2 y1_W2 y2_W2 y3_W2 v0_W2 v1_W2 v2_W2 v3_W2
    have cC0 := fun (d : Nat) (os : Array Obj) => Calls.regrown_of (better_good x.r x.c x.b x.p y0.r y0.c y0.b y0.p (Go.Sort.grow (redrawn W2 d) os) hokx.out hoky.out)
    refine wp_region_quiet_below (by kernel_rfl) (by kernel_rfl) ?_
    repeat (first | go_big_quiet_step (exact cC0 _ _) | quiet_step (exact cC0 _ _))
    refine wpQuiet_nil ?_
    intro _ hw'
    obtain ⟨⟨dq, osq⟩, hw''⟩ := hw'
    subst hw''
    have hbW3 := below_regrown W2 dq osq
    have y0_W3 := K_y0 dq osq
    have y1_W3 := K_y1 dq osq
    have y2_W3 := K_y2 dq osq
    have y3_W3 := K_y3 dq osq
    have v0_W3 := K_v0 dq osq
    have v1_W3 := K_v1 dq osq
    have v2_W3 := K_v2 dq osq
    have v3_W3 := K_v3 dq osq
    clear K_y0 K_y1 K_y2 K_y3 K_v0 K_v1 K_v2 K_v3 cC0 
    have zW3_80 : b < (Go.Sort.grow (redrawn W2 dq) osq).heap.size := Nat.lt_of_lt_of_le zW2_33 hbW3.size
    clear zW2_33
    have zW3_82 : g < (Go.Sort.grow (redrawn W2 dq) osq).heap.size := Nat.lt_of_lt_of_le zW2_35 hbW3.size
    clear zW2_35
    have zW3_84 : nW2 < (Go.Sort.grow (redrawn W2 dq) osq).heap.size := Nat.lt_of_lt_of_le znW2 hbW3.size
    clear znW2
    have H_W3 := Lib.hid (H_W2.out.below hbW3)
    clear H_W2
    have HS_W3 := Lib.hid (HS_W2.out.below hbW3)
    clear HS_W2
    have BW3 : Below W1.heap.size W1 (Go.Sort.grow (redrawn W2 dq) osq) := BW2.trans (hbW3.mono BW2.size)
    clear hbW3 BW2
    generalize Go.Sort.grow (redrawn W2 dq) osq = W3 at *
    rw [hxb'.out]
    go_wp2_with fail
    go_loopw [11, 108] (fun n i wi => ∃ j : Nat, j ≤ l.length ∧ i = .int .i64 j ∧ n = .int .i64 (diff l s x j) ∧ Below W3.heap.size W3 wi) (fun _ i _ => l.length - (intOf i).toNat)
    case atStart => exact ⟨0, by omega, rfl, by simp [diff], Below.refl _ _⟩
    case round =>
      obtain ⟨j, hj, rfl, rfl, hbj⟩ := hrel
      have hdb := diff_bd l s x j
      by_cases hlj : j < l.length
      case neg =>
        obtain rfl : j = l.length := by omega
        rw [hde.out]
        clear hdb
        have y0_wr : wr.cell? ⟨b, o + m * 4, none⟩ = some (.int .i64 y0.r) := (hbj.cell (p := ⟨b, _, none⟩) zW3_80).trans y0_W3
        have y1_wr : wr.cell? ⟨b, o + m * 4 + 1, none⟩ = some (.int .i64 y0.c) := (hbj.cell (p := ⟨b, _, none⟩) zW3_80).trans y1_W3
        have y2_wr : wr.cell? ⟨b, o + m * 4 + 2, none⟩ = some (.int .i64 y0.b) := (hbj.cell (p := ⟨b, _, none⟩) zW3_80).trans y2_W3
        have y3_wr : wr.cell? ⟨b, o + m * 4 + 3, none⟩ = some (.int .i64 y0.p) := (hbj.cell (p := ⟨b, _, none⟩) zW3_80).trans y3_W3
        have v0_wr : wr.cell? ⟨nW2, 0, none⟩ = some (.int .i64 x.r) := (hbj.cell (p := ⟨nW2, _, none⟩) zW3_84).trans v0_W3
        have v1_wr : wr.cell? ⟨nW2, 1, none⟩ = some (.int .i64 x.c) := (hbj.cell (p := ⟨nW2, _, none⟩) zW3_84).trans v1_W3
        have v2_wr : wr.cell? ⟨nW2, 2, none⟩ = some (.int .i64 x.b) := (hbj.cell (p := ⟨nW2, _, none⟩) zW3_84).trans v2_W3
        have v3_wr : wr.cell? ⟨nW2, 3, none⟩ = some (.int .i64 x.p) := (hbj.cell (p := ⟨nW2, _, none⟩) zW3_84).trans v3_W3
        clear y0_W3 y1_W3 y2_W3 y3_W3 v0_W3 v1_W3 v2_W3 v3_W3
        have zwr_9 : b < wr.heap.size := Nat.lt_of_lt_of_le zW3_80 hbj.size
        clear zW3_80
        have zwr_11 : g < wr.heap.size := Nat.lt_of_lt_of_le zW3_82 hbj.size
        clear zW3_82
        have zwr_13 : nW2 < wr.heap.size := Nat.lt_of_lt_of_le zW3_84 hbj.size
        clear zW3_84
        have H_wr := Lib.hid (H_W3.out.below hbj)
        clear H_W3
        have HS_wr := Lib.hid (HS_W3.out.below hbj)
        clear HS_W3
        have Bwr : Below W1.heap.size W1 wr := BW3.trans (hbj.mono BW3.size)
        clear hbj BW3
        have hE3 := fun w => eql_vec x y0 w
        cases e3 : decide (x = y0)
        all_goals
          have hki : Hid (decide (x = y0) = true → decide (k < m) = false) := Lib.hid (fun h => by
            have h : x = y0 := by simpa using h
            subst h
            have : ¬ k < m := fun hkm => by
              have := hxi.out hkm hx.out
              rw [V.bet_self] at this; cases this
            simp; omega)
          rw [e3] at hE3
          first | have hkm := hki.out e3 | skip
          replace e3 := Lib.hid e3
          go_wp2_with fail
          have K_y0 := cell_regrown y0_wr
          have K_y1 := cell_regrown y1_wr
          have K_y2 := cell_regrown y2_wr
          have K_y3 := cell_regrown y3_wr
          have K_v0 := cell_regrown v0_wr
          have K_v1 := cell_regrown v1_wr
          have K_v2 := cell_regrown v2_wr
          have K_v3 := cell_regrown v3_wr
          clear y0_wr y1_wr y2_wr y3_wr v0_wr v1_wr v2_wr v3_wr
          refine wp_region_quiet_below (by kernel_rfl) (by kernel_rfl) ?_
          repeat (first | go_big_quiet_step (fail) | quiet_step (fail))
          refine wpQuiet_nil ?_
          intro _ hw'
          obtain ⟨⟨dq, osq⟩, hw''⟩ := hw'
          subst hw''
          have hbW4 := below_regrown wr dq osq
          have y0_W4 := K_y0 dq osq
          have y1_W4 := K_y1 dq osq
          have y2_W4 := K_y2 dq osq
          have y3_W4 := K_y3 dq osq
          have v0_W4 := K_v0 dq osq
          have v1_W4 := K_v1 dq osq
          have v2_W4 := K_v2 dq osq
          have v3_W4 := K_v3 dq osq
          clear K_y0 K_y1 K_y2 K_y3 K_v0 K_v1 K_v2 K_v3 
          have zW4_26 : b < (Go.Sort.grow (redrawn wr dq) osq).heap.size := Nat.lt_of_lt_of_le zwr_9 hbW4.size
          clear zwr_9
          have zW4_28 : g < (Go.Sort.grow (redrawn wr dq) osq).heap.size := Nat.lt_of_lt_of_le zwr_11 hbW4.size
          clear zwr_11
          have zW4_30 : nW2 < (Go.Sort.grow (redrawn wr dq) osq).heap.size := Nat.lt_of_lt_of_le zwr_13 hbW4.size
          clear zwr_13
          have H_W4 := Lib.hid (H_wr.out.below hbW4)
          clear H_wr
          have HS_W4 := Lib.hid (HS_wr.out.below hbW4)
          clear HS_wr
          have BW4 : Below W1.heap.size W1 (Go.Sort.grow (redrawn wr dq) osq) := Bwr.trans (hbW4.mono Bwr.size)
          clear hbW4 Bwr
          generalize Go.Sort.grow (redrawn wr dq) osq = W4 at *
          clear hE3
          rcases Nat.eq_zero_or_pos k with hk0 | hk0
          · subst hk0
            go_wp2_with fail
            go_roundw
            case rel => exact ⟨0 + 1, by omega, by go_num, BW4⟩
            case measure => simp [intOf]; omega
          · obtain ⟨i, rfl⟩ : ∃ i, k = i + 1 := ⟨k - 1, by omega⟩
            obtain ⟨u, hu⟩ : ∃ u, s[i]? = some u := ⟨_, List.getElem?_eq_getElem (by rw [hsl.out]; omega)⟩
            have hback : betB z.r z.c z.b z.p u.r u.c u.b u.p = false := hnx.out i u z hu hz.out
            have hzok := Lib.hid (HVs.out _ z hz.out)
            have huok := Lib.hid (HVs.out _ u hu)
            obtain ⟨g', o'', eg, _, r0, r1, r2, r3⟩ := HS_W4.out.at_ hz.out
            obtain ⟨rfl, rfl⟩ : g = g' ∧ 0 = o'' := by simpa using eg
            clear eg
            obtain ⟨g', o'', eg, _, t0, t1, t2, t3⟩ := HS_W4.out.at_ hu
            obtain ⟨rfl, rfl⟩ : g = g' ∧ 0 = o'' := by simpa using eg
            clear eg hu
            replace hback := Lib.hid hback
            simp only [Nat.zero_add] at r0 r1 r2 r3 t0 t1 t2 t3
            clear y0_W4
            clear y1_W4
            clear y2_W4
            clear y3_W4
            clear v0_W4
            clear v1_W4
            clear v2_W4
            clear v3_W4
            go_wp2_with fail
            have K_r0 := cell_regrown r0
            have K_r1 := cell_regrown r1
            have K_r2 := cell_regrown r2
            have K_r3 := cell_regrown r3
            have K_t0 := cell_regrown t0
            have K_t1 := cell_regrown t1
            have K_t2 := cell_regrown t2
            have K_t3 := cell_regrown t3
            clear r0 r1 r2 r3 t0 t1 t2 t3
            have cC0 := fun (d : Nat) (os : Array Obj) => Calls.regrown_of (better_good z.r z.c z.b z.p u.r u.c u.b u.p (Go.Sort.grow (redrawn W4 d) os) hzok.out huok.out)
            refine wp_region_quiet_below (by kernel_rfl) (by kernel_rfl) ?_
            repeat (first | go_big_quiet_step (exact cC0 _ _) | quiet_step (exact cC0 _ _))
            refine wpQuiet_nil ?_
            intro _ hw'
            obtain ⟨⟨dq, osq⟩, hw''⟩ := hw'
            subst hw''
            have hbW5 := below_regrown W4 dq osq
            have r0_W5 := K_r0 dq osq
            have r1_W5 := K_r1 dq osq
            have r2_W5 := K_r2 dq osq
            have r3_W5 := K_r3 dq osq
            have t0_W5 := K_t0 dq osq
            have t1_W5 := K_t1 dq osq
            have t2_W5 := K_t2 dq osq
            have t3_W5 := K_t3 dq osq
            clear K_r0 K_r1 K_r2 K_r3 K_t0 K_t1 K_t2 K_t3 cC0 
            have zW5_35 : b < (Go.Sort.grow (redrawn W4 dq) osq).heap.size := Nat.lt_of_lt_of_le zW4_26 hbW5.size
            clear zW4_26
            have zW5_37 : g < (Go.Sort.grow (redrawn W4 dq) osq).heap.size := Nat.lt_of_lt_of_le zW4_28 hbW5.size
            clear zW4_28
            have zW5_39 : nW2 < (Go.Sort.grow (redrawn W4 dq) osq).heap.size := Nat.lt_of_lt_of_le zW4_30 hbW5.size
            clear zW4_30
            have H_W5 := Lib.hid (H_W4.out.below hbW5)
            clear H_W4
            have HS_W5 := Lib.hid (HS_W4.out.below hbW5)
            clear HS_W4
            have BW5 : Below W1.heap.size W1 (Go.Sort.grow (redrawn W4 dq) osq) := BW4.trans (hbW5.mono BW4.size)
            clear hbW5 BW4
            generalize Go.Sort.grow (redrawn W4 dq) osq = W5 at *
            rw [hback.out]
            go_wp2_with fail
            go_roundw
            case rel => exact ⟨i + 1 + 1, by omega, by go_num, BW5⟩
            case measure => simp [intOf]; omega
      obtain ⟨p, hp⟩ : ∃ p, l[j]? = some p := ⟨_, List.getElem?_eq_getElem hlj⟩
      obtain ⟨r, hr⟩ : ∃ r, s[j]? = some r := ⟨_, List.getElem?_eq_getElem (by rw [hsl.out]; exact hlj)⟩
      obtain ⟨b', o', eb, _, p0, p1, p2, p3⟩ := H_W3.out.at_ hp
      obtain ⟨rfl, rfl⟩ : b = b' ∧ o = o' := by simpa using eb
      obtain ⟨g', o'', eg, _, r0, r1, r2, r3⟩ := HS_W3.out.at_ hr
      obtain ⟨rfl, rfl⟩ : g = g' ∧ 0 = o'' := by simpa using eg
      simp only [Nat.zero_add] at r0 r1 r2 r3
      clear eb eg
      have hds := Lib.hid (diff_step (v := x) hp hr)
      clear hp hr
      have hj' : (j : Int) < (l.length : Int) := by omega
      have hj0 : (0 : Int) ≤ (j : Int) := by omega
      have BR3 := Below.refl W3.heap.size W3
      have y0_wr : wr.cell? ⟨b, o + m * 4, none⟩ = some (.int .i64 y0.r) := (hbj.cell (p := ⟨b, _, none⟩) zW3_80).trans y0_W3
      have y1_wr : wr.cell? ⟨b, o + m * 4 + 1, none⟩ = some (.int .i64 y0.c) := (hbj.cell (p := ⟨b, _, none⟩) zW3_80).trans y1_W3
      have y2_wr : wr.cell? ⟨b, o + m * 4 + 2, none⟩ = some (.int .i64 y0.b) := (hbj.cell (p := ⟨b, _, none⟩) zW3_80).trans y2_W3
      have y3_wr : wr.cell? ⟨b, o + m * 4 + 3, none⟩ = some (.int .i64 y0.p) := (hbj.cell (p := ⟨b, _, none⟩) zW3_80).trans y3_W3
      have v0_wr : wr.cell? ⟨nW2, 0, none⟩ = some (.int .i64 x.r) := (hbj.cell (p := ⟨nW2, _, none⟩) zW3_84).trans v0_W3
      have v1_wr : wr.cell? ⟨nW2, 1, none⟩ = some (.int .i64 x.c) := (hbj.cell (p := ⟨nW2, _, none⟩) zW3_84).trans v1_W3
      have v2_wr : wr.cell? ⟨nW2, 2, none⟩ = some (.int .i64 x.b) := (hbj.cell (p := ⟨nW2, _, none⟩) zW3_84).trans v2_W3
      have v3_wr : wr.cell? ⟨nW2, 3, none⟩ = some (.int .i64 x.p) := (hbj.cell (p := ⟨nW2, _, none⟩) zW3_84).trans v3_W3
      have p0_wr : wr.cell? ⟨b, o + j * 4, none⟩ = some (.int .i64 p.r) := (hbj.cell (p := ⟨b, _, none⟩) zW3_80).trans p0
      have p1_wr : wr.cell? ⟨b, o + j * 4 + 1, none⟩ = some (.int .i64 p.c) := (hbj.cell (p := ⟨b, _, none⟩) zW3_80).trans p1
      have p2_wr : wr.cell? ⟨b, o + j * 4 + 2, none⟩ = some (.int .i64 p.b) := (hbj.cell (p := ⟨b, _, none⟩) zW3_80).trans p2
      have p3_wr : wr.cell? ⟨b, o + j * 4 + 3, none⟩ = some (.int .i64 p.p) := (hbj.cell (p := ⟨b, _, none⟩) zW3_80).trans p3
      have r0_wr : wr.cell? ⟨g, j * 4, none⟩ = some (.int .i64 r.r) := (hbj.cell (p := ⟨g, _, none⟩) zW3_82).trans r0
      have r1_wr : wr.cell? ⟨g, j * 4 + 1, none⟩ = some (.int .i64 r.c) := (hbj.cell (p := ⟨g, _, none⟩) zW3_82).trans r1
      have r2_wr : wr.cell? ⟨g, j * 4 + 2, none⟩ = some (.int .i64 r.b) := (hbj.cell (p := ⟨g, _, none⟩) zW3_82).trans r2
      have r3_wr : wr.cell? ⟨g, j * 4 + 3, none⟩ = some (.int .i64 r.p) := (hbj.cell (p := ⟨g, _, none⟩) zW3_82).trans r3
      clear y0_W3 y1_W3 y2_W3 y3_W3 v0_W3 v1_W3 v2_W3 v3_W3 p0 p1 p2 p3 r0 r1 r2 r3
      have zwr_18 : b < wr.heap.size := Nat.lt_of_lt_of_le zW3_80 hbj.size
      clear zW3_80
      have zwr_20 : g < wr.heap.size := Nat.lt_of_lt_of_le zW3_82 hbj.size
      clear zW3_82
      have zwr_22 : nW2 < wr.heap.size := Nat.lt_of_lt_of_le zW3_84 hbj.size
      clear zW3_84
      have H_wr := Lib.hid (H_W3.out.below hbj)
      clear H_W3
      have HS_wr := Lib.hid (HS_W3.out.below hbj)
      clear HS_W3
      have Bwr : Below W3.heap.size W3 wr := BR3.trans (hbj.mono BR3.size)
      clear hbj BR3
      generalize hdd : diff l s x j = d at *
      clear hdd
      have hE1 := fun w => eql_vec p x w
      have hE2 := fun w => eql_vec r x w
      cases e1 : decide (p = x)
      all_goals
        cases e2 : decide (r = x)
        all_goals
          rw [e1] at hE1
          rw [e2] at hE2
          replace e1 := Lib.hid e1
          replace e2 := Lib.hid e2
          go_wp2_with fail
          have K_y0 := cell_regrown y0_wr
          have K_y1 := cell_regrown y1_wr
          have K_y2 := cell_regrown y2_wr
          have K_y3 := cell_regrown y3_wr
          have K_v0 := cell_regrown v0_wr
          have K_v1 := cell_regrown v1_wr
          have K_v2 := cell_regrown v2_wr
          have K_v3 := cell_regrown v3_wr
          have K_p0 := cell_regrown p0_wr
          have K_p1 := cell_regrown p1_wr
          have K_p2 := cell_regrown p2_wr
          have K_p3 := cell_regrown p3_wr
          have K_r0 := cell_regrown r0_wr
          have K_r1 := cell_regrown r1_wr
          have K_r2 := cell_regrown r2_wr
          have K_r3 := cell_regrown r3_wr
          clear y0_wr y1_wr y2_wr y3_wr v0_wr v1_wr v2_wr v3_wr p0_wr p1_wr p2_wr p3_wr r0_wr r1_wr r2_wr r3_wr
          refine wp_region_quiet_below (by kernel_rfl) (by kernel_rfl) ?_
          repeat (first | go_big_quiet_step (fail) | quiet_step (fail))
          refine wpQuiet_nil ?_
          intro _ hw'
          obtain ⟨⟨dq, osq⟩, hw''⟩ := hw'
          subst hw''
          have hbW4 := below_regrown wr dq osq
          have y0_W4 := K_y0 dq osq
          have y1_W4 := K_y1 dq osq
          have y2_W4 := K_y2 dq osq
          have y3_W4 := K_y3 dq osq
          have v0_W4 := K_v0 dq osq
          have v1_W4 := K_v1 dq osq
          have v2_W4 := K_v2 dq osq
          have v3_W4 := K_v3 dq osq
          have p0_W4 := K_p0 dq osq
          have p1_W4 := K_p1 dq osq
          have p2_W4 := K_p2 dq osq
          have p3_W4 := K_p3 dq osq
          have r0_W4 := K_r0 dq osq
          have r1_W4 := K_r1 dq osq
          have r2_W4 := K_r2 dq osq
          have r3_W4 := K_r3 dq osq
          clear K_y0 K_y1 K_y2 K_y3 K_v0 K_v1 K_v2 K_v3 K_p0 K_p1 K_p2 K_p3 K_r0 K_r1 K_r2 K_r3 
          have zW4_42 : b < (Go.Sort.grow (redrawn wr dq) osq).heap.size := Nat.lt_of_lt_of_le zwr_18 hbW4.size
          clear zwr_18
          have zW4_44 : g < (Go.Sort.grow (redrawn wr dq) osq).heap.size := Nat.lt_of_lt_of_le zwr_20 hbW4.size
          clear zwr_20
          have zW4_46 : nW2 < (Go.Sort.grow (redrawn wr dq) osq).heap.size := Nat.lt_of_lt_of_le zwr_22 hbW4.size
          clear zwr_22
          have H_W4 := Lib.hid (H_wr.out.below hbW4)
          clear H_wr
          have HS_W4 := Lib.hid (HS_wr.out.below hbW4)
          clear HS_wr
          have BW4 : Below W3.heap.size W3 (Go.Sort.grow (redrawn wr dq) osq) := Bwr.trans (hbW4.mono Bwr.size)
          clear hbW4 Bwr
          generalize Go.Sort.grow (redrawn wr dq) osq = W4 at *
          go_wp2_with fail
          have K_y0 := cell_regrown y0_W4
          have K_y1 := cell_regrown y1_W4
          have K_y2 := cell_regrown y2_W4
          have K_y3 := cell_regrown y3_W4
          have K_v0 := cell_regrown v0_W4
          have K_v1 := cell_regrown v1_W4
          have K_v2 := cell_regrown v2_W4
          have K_v3 := cell_regrown v3_W4
          have K_p0 := cell_regrown p0_W4
          have K_p1 := cell_regrown p1_W4
          have K_p2 := cell_regrown p2_W4
          have K_p3 := cell_regrown p3_W4
          have K_r0 := cell_regrown r0_W4
          have K_r1 := cell_regrown r1_W4
          have K_r2 := cell_regrown r2_W4
          have K_r3 := cell_regrown r3_W4
          clear y0_W4 y1_W4 y2_W4 y3_W4 v0_W4 v1_W4 v2_W4 v3_W4 p0_W4 p1_W4 p2_W4 p3_W4 r0_W4 r1_W4 r2_W4 r3_W4
          refine wp_region_quiet_below (by kernel_rfl) (by kernel_rfl) ?_
          repeat (first | go_big_quiet_step (fail) | quiet_step (fail))
          refine wpQuiet_nil ?_
          intro _ hw'
          obtain ⟨⟨dq, osq⟩, hw''⟩ := hw'
          subst hw''
          have hbW5 := below_regrown W4 dq osq
          have y0_W5 := K_y0 dq osq
          have y1_W5 := K_y1 dq osq
          have y2_W5 := K_y2 dq osq
          have y3_W5 := K_y3 dq osq
          have v0_W5 := K_v0 dq osq
          have v1_W5 := K_v1 dq osq
          have v2_W5 := K_v2 dq osq
          have v3_W5 := K_v3 dq osq
          have p0_W5 := K_p0 dq osq
          have p1_W5 := K_p1 dq osq
          have p2_W5 := K_p2 dq osq
          have p3_W5 := K_p3 dq osq
          have r0_W5 := K_r0 dq osq
          have r1_W5 := K_r1 dq osq
          have r2_W5 := K_r2 dq osq
          have r3_W5 := K_r3 dq osq
          clear K_y0 K_y1 K_y2 K_y3 K_v0 K_v1 K_v2 K_v3 K_p0 K_p1 K_p2 K_p3 K_r0 K_r1 K_r2 K_r3 
          have zW5_97 : b < (Go.Sort.grow (redrawn W4 dq) osq).heap.size := Nat.lt_of_lt_of_le zW4_42 hbW5.size
          clear zW4_42
          have zW5_99 : g < (Go.Sort.grow (redrawn W4 dq) osq).heap.size := Nat.lt_of_lt_of_le zW4_44 hbW5.size
          clear zW4_44
          have zW5_101 : nW2 < (Go.Sort.grow (redrawn W4 dq) osq).heap.size := Nat.lt_of_lt_of_le zW4_46 hbW5.size
          clear zW4_46
          have H_W5 := Lib.hid (H_W4.out.below hbW5)
          clear H_W4
          have HS_W5 := Lib.hid (HS_W4.out.below hbW5)
          clear HS_W4
          have BW5 : Below W3.heap.size W3 (Go.Sort.grow (redrawn W4 dq) osq) := BW4.trans (hbW5.mono BW4.size)
          clear hbW5 BW4
          generalize Go.Sort.grow (redrawn W4 dq) osq = W5 at *
          go_wp2_with fail
          go_roundw
          case rel => exact ⟨j + 1, by omega, by go_num, by (congr 1; have h := diff_val hds.out e1.out e2.out; simp at h; omega), BW5⟩
          case measure => simp [intOf]; omega

end Go.Proofs.Ytanceablbmgblaa.VecP
