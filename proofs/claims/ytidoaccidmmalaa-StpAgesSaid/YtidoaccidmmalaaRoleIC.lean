/-
  Contracts of role.wayBy, isBetter, rootWay.
-/
import Derived.Test.YtidoaccidmmalaaRoleIA
import Derived.Test.YtidoaccidmmalaaRoleM
import Derived.Test.YtidoaccidmmalaaRegLit
namespace Go.Proofs.Ytidoaccidmmalaa.RoleP
open Go.Proofs.Ytidoaccidmmalaa.MacP (arr_out Wrote)
open Go.RowKit Go.Sort Go.Proofs.Ytidoaccidmmalaa.SliceP Go.Proofs.Ytidoaccidmmalaa.BoxP Go.Proofs.Ytidoaccidmmalaa.VecP
open Go.Proofs.Ytidoaccidmmalaa.IntP (RowI SlI OwnI)
open Go.Proofs.Ytidoaccidmmalaa.BoolP (RowB SlB)
set_option linter.unusedVariables false
set_option maxRecDepth 100000
theorem arr4 (cs : Array Value) (h : cs.size = 4) : ∃ v0 v1 v2 v3, cs = #[v0, v1, v2, v3] := by
  have e := arr_out cs 4 h
  exact ⟨_, _, _, _, e⟩
section
variable {s : S}
theorem bet_r {x y : V} (h : x.bet y = true) : x.r ≤ y.r := by
  have := (betB_iff _ _ _ _ _ _ _ _).1 h
  omega
theorem bet_l {x y : V} (h : x.r < y.r) : x.bet y = true := (betB_iff _ _ _ _ _ _ _ _).2 (.inl h)
theorem wk_ok (hok : s.ok = true) {p : Nat} (hp : p < s.costs.length) (h : (s.info p).has = true) : (s.way p).ok = true := by
  have h1 := (okV_iff _ _ _ _).1 ((ok_info hok hp).2.1 h).2
  obtain ⟨h2, h3, _⟩ := ok_port hok hp
  refine (okV_iff _ _ _ _).2 ?_
  unfold S.way farV
  simp only
  omega
/-- The root port, of the first k. -/
def S.rt (s : S) (k : Nat) : Option Nat := match s.best k with | some b => if (s.way b).r < s.id then some b else none | none => none
theorem rt_root : s.rt s.infos.length = s.root := rfl
theorem rt_no {k : Nat} (h : (s.info k).has = false) : s.rt (k + 1) = s.rt k := by unfold S.rt; rw [best_no h]
theorem rt_some {k b : Nat} (h : s.rt k = some b) : s.best k = some b ∧ (s.way b).r < s.id := by
  unfold S.rt at h
  cases hb : s.best k with
  | none => rw [hb] at h; cases h
  | some c =>
    rw [hb] at h
    simp only at h
    by_cases hc : (s.way c).r < s.id
    · rw [if_pos hc] at h; obtain rfl := Option.some.inj h; exact ⟨rfl, hc⟩
    · rw [if_neg hc] at h; cases h
theorem rt_of {k b : Nat} (h : s.best k = some b) (hr : (s.way b).r < s.id) : s.rt k = some b := by unfold S.rt; rw [h]; exact if_pos hr
theorem rt_yes {k b : Nat} (hh : (s.info k).has = true) (h : s.rt k = some b) (hb : (s.way k).bet (s.way b) = true) : s.rt (k + 1) = some k := by
  obtain ⟨h1, h2⟩ := rt_some h
  exact rt_of (best_yes hh h1 hb) (by have := bet_r hb; omega)
theorem rt_keep {k b : Nat} (h : s.rt k = some b) (hb : (s.way k).bet (s.way b) = false) : s.rt (k + 1) = some b := by
  obtain ⟨h1, h2⟩ := rt_some h
  exact rt_of (best_keep h1 hb) h2
theorem rt_first {k : Nat} (hh : (s.info k).has = true) (h : s.rt k = none) (hr : (s.way k).r < s.id) : s.rt (k + 1) = some k := by
  cases hb : s.best k with
  | none => exact rt_of (best_first hh hb) hr
  | some b =>
    have : ¬ (s.way b).r < s.id := fun hc => by rw [rt_of hb hc] at h; cases h
    exact rt_of (best_yes hh hb (bet_l (by omega))) hr
theorem rt_none {k : Nat} (hh : (s.info k).has = true) (h : s.rt k = none) (hr : ¬ (s.way k).r < s.id) : s.rt (k + 1) = none := by
  cases hb : s.best k with
  | none => unfold S.rt; rw [best_first hh hb]; exact if_neg hr
  | some b =>
    have hc : ¬ (s.way b).r < s.id := fun hc => by rw [rt_of hb hc] at h; cases h
    cases hw : (s.way k).bet (s.way b) with
    | true => unfold S.rt; rw [best_yes hh hb hw]; exact if_neg hr
    | false => unfold S.rt; rw [best_keep hb hw]; exact if_neg hc
theorem rt_lt {k b : Nat} (h : s.rt k = some b) : b < k ∧ (s.info b).has = true := best_lt (rt_some h).1
end
/-- A way as the program holds it. -/
def wayV (s : S) : Option Nat → Value
  | some b => pwI b (s.way b) (s.info b).age
  | none => noI
theorem below6 {n b : Nat} {w0 w : World} (h : Below n w0 w) (hb : n ≤ b) (v0 v1 v2 v3 v4 v5 : Value) : Below n w0 ((((((w.setCell ⟨b, 0, none⟩ v0).setCell ⟨b, 1, none⟩ v1).setCell ⟨b, 2, none⟩ v2).setCell ⟨b, 3, none⟩ v3).setCell ⟨b, 4, none⟩ v4).setCell ⟨b, 5, none⟩ v5) := (below5 h hb v0 v1 v2 v3 v4).setCell hb _
theorem farG {x : V} {n : Int} (hx : x.ok = true) (h0 : 1 ≤ n) (h1 : n ≤ 1000) {y : V} (h : farV x n = y) (w : World) : Calls Try.prog 81 #[vg x, .int .i64 n] w fun e w' => e = .returned (.tuple #[vg y, .int .i64 0]) ∧ Below w.heap.size w w' := by
  have := far_good x.r x.c x.b x.p n w hx (by unfold inB; simp; omega)
  rw [← h]
  exact this
set_option maxHeartbeats 16000000 in
theorem o_way {s : S} {AC : Option Addr} {cC : Nat} {AU : Option Addr} {cU : Nat} {AI : Option Addr} {cI : Nat} {w : World} (hF : Fit s) (hS : SelfR w s AC cC AU cU AI cI) {p : Nat} (hp : p < s.infos.length) (hh : (s.info p).has = true) :
    Calls Try.prog 74 #[selfV s.id (.slice AC s.costs.length cC) (.slice AU s.ups.length cU) (.slice AI s.infos.length cI), .int .i64 p] w fun e w' => e = .returned (pw p (s.way p) (s.info p).age) ∧ Below w.heap.size w w' := by
  obtain ⟨w0, hw0⟩ : ∃ W, W = (w.alloc (.cells #[.int .i64 s.id, .slice AC s.costs.length cC, .slice AU s.ups.length cU, .slice AI s.infos.length cI] 26)).alloc (.cells #[.int .i64 0, .int .i64 0, .int .i64 0, .int .i64 0, .int .i64 0, .int .i64 0] 118) := ⟨_, rfl⟩
  have I := Lib.hid (show InS w w0 s AC cC AU cU AI cI by rw [hw0]; exact (InS.new hS).below ((Below.refl _ _).alloc (Nat.le_refl _) _))
  have X := Lib.hid (show Bx w0 (w.heap.size + 1) 118 #[.int .i64 0, .int .i64 0, .int .i64 0, .int .i64 0, .int .i64 0, .int .i64 0] by rw [hw0]; exact Bx.new _ _ _ (by simp))
  obtain ⟨⟨l1, l2⟩, l3, l4⟩ := hF.len
  have hpc : p < s.costs.length := by omega
  have hpl : (p : Int) < (s.infos.length : Int) := by omega
  have hpl2 : (p : Int) < (s.costs.length : Int) := by omega
  have hm1 : s.costs.length ≤ 8 := by omega
  have hm2 : s.infos.length ≤ 8 := by omega
  obtain ⟨bI, oI, rfl, hbI0, q0, q1, q2, q3, q4, q5⟩ := SlN.at_ I.out.r.infos.sl (info_at (s := s) (p := p) hp)
  obtain ⟨_, hxo⟩ := (ok_info hF.ok hpc).2.1 hh
  obtain ⟨hc1, hc2, _⟩ := ok_port hF.ok hpc
  have hy9 : farV (s.info p).v (s.cost p) = s.way p := rfl
  obtain ⟨y, hy⟩ : ∃ y, s.way p = y := ⟨_, rfl⟩
  rw [hy] at hy9 ⊢
  obtain ⟨x, hx⟩ : ∃ x, s.info p = x := ⟨_, rfl⟩
  rw [hx] at q0 q1 q2 q3 q4 q5 hxo hy9 ⊢
  obtain ⟨n, hn⟩ : ∃ n, s.cost p = n := ⟨_, rfl⟩
  rw [hn] at hc1 hc2 hy9
  have hFar := Lib.hid fun W => farG hxo hc1 hc2 hy9 W
  replace hxo := Lib.hid hxo
  replace hy := Lib.hid hy
  replace hx := Lib.hid hx
  replace hn := Lib.hid hn
  replace hy9 := Lib.hid hy9
  replace hh := Lib.hid hh
  replace hF := Lib.hid hF
  clear hS l1 l2 l3 l4
  obtain ⟨y0, y1, y2, y3, hyl⟩ := I.out.cells
  go_enter Try.func74, Try.ntmps74
  go_upto_region 1 with fail
  rw [← hw0]
  have hw0s := Lib.hid (show w.heap.size + 1 < w0.heap.size by rw [hw0]; simp)
  clear hw0
  go_upto_region 2 with fail
  clear y0 y1 y2 y3
  obtain ⟨w1, hw1⟩ : ∃ W, W = w0.alloc (.cells #[.bool x.has, .int .i64 x.v.r, .int .i64 x.v.c, .int .i64 x.v.b, .int .i64 x.v.p, .int .i64 x.age] 66) := ⟨_, rfl⟩
  have bw1 : Below w0.heap.size w0 w1 := by rw [hw1]; exact (Below.refl _ _).alloc (Nat.le_refl _) _
  have Xw1 : Bx w1 w0.heap.size 66 #[.bool x.has, .int .i64 x.v.r, .int .i64 x.v.c, .int .i64 x.v.b, .int .i64 x.v.p, .int .i64 x.age] := by rw [hw1]; exact Bx.new _ _ _ rfl
  rw [← hw1]
  clear hw1
  have I_w1 := Lib.hid (I.out.below bw1)
  have X_w1 := Lib.hid (X.out.below bw1)
  have N_w1 := Lib.hid (Xw1)
  have z0_w1 : w.heap.size < w1.heap.size := Nat.lt_of_lt_of_le hyl bw1.size
  clear I X hyl
  have z1_w1 : w0.heap.size < w1.heap.size := Xw1.lt
  clear Xw1
  obtain ⟨bC, oC, rfl, hbC, qC⟩ := IntP.SlI.at_ I_w1.out.r.costs.sl (cost_at hpc)
  rw [hn.out] at qC
  clear q0 q1 q2 q3 q4 q5 hbI0
  have o_I_0 := I_w1.out.c (i := 0) rfl
  have o_I_1 := I_w1.out.c (i := 1) rfl
  have o_I_2 := I_w1.out.c (i := 2) rfl
  have o_I_3 := I_w1.out.c (i := 3) rfl
  have o_N_0 := N_w1.out.c (i := 0) rfl
  have o_N_1 := N_w1.out.c (i := 1) rfl
  have o_N_2 := N_w1.out.c (i := 2) rfl
  have o_N_3 := N_w1.out.c (i := 3) rfl
  have o_N_4 := N_w1.out.c (i := 4) rfl
  have o_N_5 := N_w1.out.c (i := 5) rfl
  refine Go.Proofs.Ytidoaccidmmalaa.MacP.wp_region_lit (by kernel_rfl) (fun ix => match ix with | 0 => 14 | 1 => 15 | 2 => 16 | 3 => 17 | 4 => 18 | 5 => 19 | 6 => 20 | 7 => 21 | 8 => 13 | 9 => 22 | 10 => 23 | 11 => 6 | 13 => 7 | _ => 0) 11 12 31 #[.int .i64 0, .int .i64 0, .int .i64 0, .int .i64 0] #[.int .i64 y.r, .int .i64 y.c, .int .i64 y.b, .int .i64 y.p] (by decide) (by decide) (by decide) (by kernel_rfl) (by kernel_rfl) (by kernel_rfl) rfl (fun ix v _ => match ix with | 0 => v = .pointer (some ⟨w0.heap.size, 1, none⟩) | 1 => v = vg x.v | 2 => v = .pointer (some ⟨w.heap.size, 1, none⟩) | 3 => v = .slice (some ⟨bC, oC, none⟩) s.costs.length cC | 4 => v = .int .i64 p | 5 => v = .pointer (some ⟨bC, oC + p, none⟩) | 6 => v = .int .i64 n | 7 => v = .tuple #[vg y, .int .i64 0] | 8 => v = .tuple #[vg y, .int .i64 0] | 9 => v = vg y | 10 => v = .int .i64 0 | 13 => v = .int .i64 0 | _ => True) (fun _ _ _ _ h _ => h) (fun _ _ _ _ _ h _ _ => h) ?_ ?_
  · refine ⟨?_, ?_, ?_, ?_, ?_, ?_, ?_, ?_, ?_, ?_, ?_, ?_, ?_, ?_, trivial⟩
    · as_aux_lemma =>
        intro a w1 K hb hdep hk hK
        replace hK : ∀ v w', v = .pointer (some ⟨w0.heap.size, 1, none⟩) → Below w1.heap.size w1 w' → K (a.put (some 14) v) w' := hK
        have d5 : a.tmps.getD 5 undef = .pointer (some ⟨w0.heap.size, 0, none⟩) := hk 5 (by kernel_rfl)
        clear hdep hk hb
        go_simp
        exact hK _ _ rfl (Below.refl _ _)
    · as_aux_lemma =>
        intro a w1 K hb hdep hk hK
        replace hK : ∀ v w', v = vg x.v → Below w1.heap.size w1 w' → K (a.put (some 15) v) w' := hK
        have d14 : a.tmps.getD 14 undef = .pointer (some ⟨w0.heap.size, 1, none⟩) := hdep ⟨0, .data⟩ (by simp) rfl (by decide) (by decide)
        have t0 := (hb.cell (p := ⟨w0.heap.size, 0, none⟩) z1_w1).trans o_N_0
        have t1 := (hb.cell (p := ⟨w0.heap.size, 1, none⟩) z1_w1).trans o_N_1
        have t2 := (hb.cell (p := ⟨w0.heap.size, 2, none⟩) z1_w1).trans o_N_2
        have t3 := (hb.cell (p := ⟨w0.heap.size, 3, none⟩) z1_w1).trans o_N_3
        have t4 := (hb.cell (p := ⟨w0.heap.size, 4, none⟩) z1_w1).trans o_N_4
        have t5 := (hb.cell (p := ⟨w0.heap.size, 5, none⟩) z1_w1).trans o_N_5
        clear hdep hk hb
        go_simp
        exact hK _ _ rfl (Below.refl _ _)
    · as_aux_lemma =>
        intro a w1 K hb hdep hk hK
        replace hK : ∀ v w', v = .pointer (some ⟨w.heap.size, 1, none⟩) → Below w1.heap.size w1 w' → K (a.put (some 16) v) w' := hK
        have d2 : a.tmps.getD 2 undef = .pointer (some ⟨w.heap.size, 0, none⟩) := hk 2 (by kernel_rfl)
        clear hdep hk hb
        go_simp
        exact hK _ _ rfl (Below.refl _ _)
    · as_aux_lemma =>
        intro a w1 K hb hdep hk hK
        replace hK : ∀ v w', v = .slice (some ⟨bC, oC, none⟩) s.costs.length cC → Below w1.heap.size w1 w' → K (a.put (some 17) v) w' := hK
        have d16 : a.tmps.getD 16 undef = .pointer (some ⟨w.heap.size, 1, none⟩) := hdep ⟨2, .data⟩ (by simp) rfl (by decide) (by decide)
        have t0 := (hb.cell (p := ⟨w.heap.size, 0, none⟩) z0_w1).trans o_I_0
        have t1 := (hb.cell (p := ⟨w.heap.size, 1, none⟩) z0_w1).trans o_I_1
        have t2 := (hb.cell (p := ⟨w.heap.size, 2, none⟩) z0_w1).trans o_I_2
        have t3 := (hb.cell (p := ⟨w.heap.size, 3, none⟩) z0_w1).trans o_I_3
        clear hdep hk hb
        go_simp
        exact hK _ _ rfl (Below.refl _ _)
    · as_aux_lemma =>
        intro a w1 K hb hdep hk hK
        replace hK : ∀ v w', v = .int .i64 p → Below w1.heap.size w1 w' → K (a.put (some 18) v) w' := hK
        have d1 : a.tmps.getD 1 undef = .int .i64 p := hk 1 (by kernel_rfl)
        clear hdep hk hb
        go_simp
        exact hK _ _ rfl (Below.refl _ _)
    · as_aux_lemma =>
        intro a w1 K hb hdep hk hK
        replace hK : ∀ v w', v = .pointer (some ⟨bC, oC + p, none⟩) → Below w1.heap.size w1 w' → K (a.put (some 19) v) w' := hK
        have d17 : a.tmps.getD 17 undef = .slice (some ⟨bC, oC, none⟩) s.costs.length cC := hdep ⟨3, .data⟩ (by simp) rfl (by decide) (by decide)
        have d18 : a.tmps.getD 18 undef = .int .i64 p := hdep ⟨4, .data⟩ (by simp) rfl (by decide) (by decide)
        clear hdep hk hb
        go_simp
        exact hK _ _ rfl (Below.refl _ _)
    · as_aux_lemma =>
        intro a w1 K hb hdep hk hK
        replace hK : ∀ v w', v = .int .i64 n → Below w1.heap.size w1 w' → K (a.put (some 20) v) w' := hK
        have d19 : a.tmps.getD 19 undef = .pointer (some ⟨bC, oC + p, none⟩) := hdep ⟨5, .data⟩ (by simp) rfl (by decide) (by decide)
        have pC := (hb.cell (p := ⟨bC, oC + p, none⟩) hbC).trans qC
        clear hdep hk hb
        go_simp
        exact hK _ _ rfl (Below.refl _ _)
    · as_aux_lemma =>
        intro a w1 K hb hdep hk hK
        replace hK : ∀ v w', v = .tuple #[vg y, .int .i64 0] → Below w1.heap.size w1 w' → K (a.put (some 21) v) w' := hK
        have d15 : a.tmps.getD 15 undef = vg x.v := hdep ⟨1, .data⟩ (by simp) rfl (by decide) (by decide)
        have d20 : a.tmps.getD 20 undef = .int .i64 n := hdep ⟨6, .data⟩ (by simp) rfl (by decide) (by decide)
        clear hdep hk hb
        have hcall := hFar
        have q15 : a.tmps[15]?.getD undef = vg x.v := by simpa [Array.getD_eq_getD_getElem?] using d15
        clear d15
        have q20 : a.tmps[20]?.getD undef = .int .i64 n := by simpa [Array.getD_eq_getD_getElem?] using d20
        clear d20
        go_simp
        refine (hcall.out _).mono ?_
        rintro e w9 ⟨rfl, r2⟩
        exact hK _ _ rfl r2
    · as_aux_lemma =>
        intro a w1 K hb hdep hk hK
        replace hK : ∀ v w', v = .tuple #[vg y, .int .i64 0] → Below w1.heap.size w1 w' → K (a.put (some 13) v) w' := hK
        have d21 : a.tmps.getD 21 undef = .tuple #[vg y, .int .i64 0] := hdep ⟨7, .data⟩ (by simp) rfl (by decide) (by decide)
        clear hdep hk hb
        have q21 : a.tmps[21]?.getD undef = .tuple #[vg y, .int .i64 0] := by simpa [Array.getD_eq_getD_getElem?] using d21
        clear d21
        go_simp
        exact hK _ _ rfl (Below.refl _ _)
    · as_aux_lemma =>
        intro a w1 K hb hdep hk hK
        replace hK : ∀ v w', v = vg y → Below w1.heap.size w1 w' → K (a.put (some 22) v) w' := hK
        have d13 : a.tmps.getD 13 undef = .tuple #[vg y, .int .i64 0] := hdep ⟨8, .data⟩ (by simp) rfl (by decide) (by decide)
        clear hdep hk hb
        have q13 : a.tmps[13]?.getD undef = .tuple #[vg y, .int .i64 0] := by simpa [Array.getD_eq_getD_getElem?] using d13
        clear d13
        go_simp
        exact hK _ _ rfl (Below.refl _ _)
    · as_aux_lemma =>
        intro a w1 K hb hdep hk hK
        replace hK : ∀ v w', v = .int .i64 0 → Below w1.heap.size w1 w' → K (a.put (some 23) v) w' := hK
        have d13 : a.tmps.getD 13 undef = .tuple #[vg y, .int .i64 0] := hdep ⟨8, .data⟩ (by simp) rfl (by decide) (by decide)
        clear hdep hk hb
        have q13 : a.tmps[13]?.getD undef = .tuple #[vg y, .int .i64 0] := by simpa [Array.getD_eq_getD_getElem?] using d13
        clear d13
        go_simp
        exact hK _ _ rfl (Below.refl _ _)
    · as_aux_lemma =>
        intro a w1 K hb hdep hk hK
        clear hdep hk hb
        go_simp
        exact hK
    · as_aux_lemma =>
        intro a w1 K hb hdep hk hK
        obtain ⟨b9, cs, h9, hblk, hcs, hK⟩ : ∃ b9 cs, a.tmps.getD 6 undef = .pointer (some ⟨b9, 0, none⟩) ∧ w1.heap[b9]? = some (.cells cs 31 (0, 0)) ∧ cs.size = 4 ∧ ∀ w', Wrote b9 #[.int .i64 y.r, .int .i64 y.c, .int .i64 y.b, .int .i64 y.p] 31 w1 w' → K a w' := hK
        have d22 : a.tmps.getD 22 undef = vg y := hdep ⟨9, .data⟩ (by simp) rfl (by decide) (by decide)
        have q22 : a.tmps[22]?.getD undef = vg y := by simpa [Array.getD_eq_getD_getElem?] using d22
        clear d22
        obtain ⟨v0, v1, v2, v3, rfl⟩ : ∃ v0 v1 v2 v3, cs = #[v0, v1, v2, v3] := arr4 cs hcs
        clear hcs
        have g0 : w1.cell? ⟨b9, 0, none⟩ = some v0 := Joins.cell_of_block hblk 0
        have f0 : w1.frozen? ⟨b9, 0, none⟩ = false := frozen_of_row w1 b9 0 _ _ hblk
        have g1 : w1.cell? ⟨b9, 1, none⟩ = some v1 := Joins.cell_of_block hblk 1
        have f1 : w1.frozen? ⟨b9, 1, none⟩ = false := frozen_of_row w1 b9 1 _ _ hblk
        have g2 : w1.cell? ⟨b9, 2, none⟩ = some v2 := Joins.cell_of_block hblk 2
        have f2 : w1.frozen? ⟨b9, 2, none⟩ = false := frozen_of_row w1 b9 2 _ _ hblk
        have g3 : w1.cell? ⟨b9, 3, none⟩ = some v3 := Joins.cell_of_block hblk 3
        have f3 : w1.frozen? ⟨b9, 3, none⟩ = false := frozen_of_row w1 b9 3 _ _ hblk
        replace hblk := Lib.hid hblk
        clear hdep hk hb
        go_simp
        exact hK _ (((((Wrote.start hblk.out).set (i := 0) _).set (i := 1) _).set (i := 2) _).set (i := 3) _)
    · as_aux_lemma =>
        intro a w1 K hb hdep hk hK
        replace hK : ∀ v w', v = .int .i64 0 → Below w1.heap.size w1 w' → K (a.put (some 7) v) w' := hK
        have d23 : a.tmps.getD 23 undef = .int .i64 0 := hdep ⟨10, .data⟩ (by simp) rfl (by decide) (by decide)
        clear hdep hk hb
        go_simp
        exact hK _ _ rfl (Below.refl _ _)
  · intro a w2 b9 hlw2 hsp hk h8 hzb hblk hnn hdf
    have s1 : a.tmps.getD 1 undef = .int .i64 p := hk 1 (by kernel_rfl)
    have s2 : a.tmps.getD 2 undef = .pointer (some ⟨w.heap.size, 0, none⟩) := hk 2 (by kernel_rfl)
    have s4 : a.tmps.getD 4 undef = .pointer (some ⟨w.heap.size + 1, 0, none⟩) := hk 4 (by kernel_rfl)
    have s5 : a.tmps.getD 5 undef = .pointer (some ⟨w0.heap.size, 0, none⟩) := hk 5 (by kernel_rfl)
    have s6 : a.tmps.getD 6 undef = .pointer (some ⟨b9, 0, none⟩) := h8
    have s7 : a.tmps.getD 7 undef = .int .i64 0 := hsp 13 (by decide) (by decide) (by decide)
    clear hk hsp h8
    obtain ⟨tm, df⟩ := a
    have e := arr_out tm 29 hnn
    replace e : tm = #[tm.getD 0 undef, tm.getD 1 undef, tm.getD 2 undef, tm.getD 3 undef, tm.getD 4 undef, tm.getD 5 undef, tm.getD 6 undef, tm.getD 7 undef, tm.getD 8 undef, tm.getD 9 undef, tm.getD 10 undef, tm.getD 11 undef, tm.getD 12 undef, tm.getD 13 undef, tm.getD 14 undef, tm.getD 15 undef, tm.getD 16 undef, tm.getD 17 undef, tm.getD 18 undef, tm.getD 19 undef, tm.getD 20 undef, tm.getD 21 undef, tm.getD 22 undef, tm.getD 23 undef, tm.getD 24 undef, tm.getD 25 undef, tm.getD 26 undef, tm.getD 27 undef, tm.getD 28 undef] := e
    simp only at s1 s2 s4 s5 s6 s7 hdf
    rw [s1, s2, s4, s5, s6, s7] at e
    subst hdf
    clear s1 s2 s4 s5 s6 s7 hnn
    generalize tm.getD 0 undef = y0 at e
    generalize tm.getD 3 undef = y3 at e
    generalize tm.getD 8 undef = y8 at e
    generalize tm.getD 9 undef = y9 at e
    generalize tm.getD 10 undef = y10 at e
    generalize tm.getD 11 undef = y11 at e
    generalize tm.getD 12 undef = y12 at e
    generalize tm.getD 13 undef = y13 at e
    generalize tm.getD 14 undef = y14 at e
    generalize tm.getD 15 undef = y15 at e
    generalize tm.getD 16 undef = y16 at e
    generalize tm.getD 17 undef = y17 at e
    generalize tm.getD 18 undef = y18 at e
    generalize tm.getD 19 undef = y19 at e
    generalize tm.getD 20 undef = y20 at e
    generalize tm.getD 21 undef = y21 at e
    generalize tm.getD 22 undef = y22 at e
    generalize tm.getD 23 undef = y23 at e
    generalize tm.getD 24 undef = y24 at e
    generalize tm.getD 25 undef = y25 at e
    generalize tm.getD 26 undef = y26 at e
    generalize tm.getD 27 undef = y27 at e
    generalize tm.getD 28 undef = y28 at e
    subst e
    clear o_I_0 o_I_1 o_I_2 o_I_3 o_N_0 o_N_1 o_N_2 o_N_3 o_N_4 o_N_5
    have I_w2 := Lib.hid (I_w1.out.below hlw2)
    have X_w2 := Lib.hid (X_w1.out.below hlw2)
    have N_w2 := Lib.hid (N_w1.out.below hlw2)
    have BB_w2 := Lib.hid (show Bx w2 b9 31 #[.int .i64 y.r, .int .i64 y.c, .int .i64 y.b, .int .i64 y.p] from hblk)
    have z0_w2 : w.heap.size < w2.heap.size := Nat.lt_of_lt_of_le z0_w1 hlw2.size
    have z1_w2 : w0.heap.size < w2.heap.size := Nat.lt_of_lt_of_le z1_w1 hlw2.size
    have B_w2 := bt bw1 hlw2
    clear I_w1 X_w1 N_w1 z0_w1 z1_w1 bw1 hlw2
    have z9 : b9 < w2.heap.size := (show Bx w2 b9 31 _ from hblk).lt
    clear hblk hzb qC hbC
    have B9 := I_w2.out.b
    simp only [Exit.then]
    have o_I_0 := I_w2.out.c (i := 0) rfl
    have o_I_1 := I_w2.out.c (i := 1) rfl
    have o_I_2 := I_w2.out.c (i := 2) rfl
    have o_I_3 := I_w2.out.c (i := 3) rfl
    have o_N_0 := N_w2.out.c (i := 0) rfl
    have o_N_1 := N_w2.out.c (i := 1) rfl
    have o_N_2 := N_w2.out.c (i := 2) rfl
    have o_N_3 := N_w2.out.c (i := 3) rfl
    have o_N_4 := N_w2.out.c (i := 4) rfl
    have o_N_5 := N_w2.out.c (i := 5) rfl
    have o_BB_0 := BB_w2.out.c (i := 0) rfl
    have o_BB_1 := BB_w2.out.c (i := 1) rfl
    have o_BB_2 := BB_w2.out.c (i := 2) rfl
    have o_BB_3 := BB_w2.out.c (i := 3) rfl
    have o_X_0 := X_w2.out.c (i := 0) rfl
    have o_X_1 := X_w2.out.c (i := 1) rfl
    have o_X_2 := X_w2.out.c (i := 2) rfl
    have o_X_3 := X_w2.out.c (i := 3) rfl
    have o_X_4 := X_w2.out.c (i := 4) rfl
    have o_X_5 := X_w2.out.c (i := 5) rfl
    have p_X_0 := X_w2.out.f 0
    have p_X_1 := X_w2.out.f 1
    have p_X_2 := X_w2.out.f 2
    have p_X_3 := X_w2.out.f 3
    have p_X_4 := X_w2.out.f 4
    have p_X_5 := X_w2.out.f 5
    have hzx := X_w2.out.lt
    go_wp2_with fail
    refine bodyPost_ret (v := pw p y x.age) (by simp [results, Try.results74, go_sem, o_X_0, o_X_1, o_X_2, o_X_3, o_X_4, o_X_5]) rfl ⟨rfl, ?_⟩
    exact below6 B9 (by omega) _ _ _ _ _ _
set_option maxHeartbeats 8000000 in
theorem ib_none (n : Int) (v : V) (a id : Int) (b : Bool) (h : decide (v.r < id) = b) (w : World) : Calls Try.prog 75 #[pw n v a, noI, .int .i64 id] w fun e w' => e = .returned (.bool b) ∧ Below w.heap.size w w' := by
  have ha := as_none (.agg #[])
  go_enter Try.func75, Try.ntmps75
  go_wp2_with fail
  go_ret
  exact ⟨by rw [← h]; rfl, (Below.refl _ _).alloc (Nat.le_refl _) _⟩
set_option maxHeartbeats 8000000 in
theorem ib_port (n : Int) (v : V) (a m : Int) (u : V) (c id : Int) (b : Bool) (hv : v.ok = true) (hu : u.ok = true) (h : v.bet u = b) (w : World) : Calls Try.prog 75 #[pw n v a, pwI m u c, .int .i64 id] w fun e w' => e = .returned (.bool b) ∧ Below w.heap.size w w' := by
  have ha := as_port (pw m u c)
  have hvb := Lib.hid fun W => vb_to v u b hv hu h W
  clear hv hu h
  obtain ⟨w0, hw0⟩ : ∃ W, W = (w.alloc (.cells #[.int .i64 n, .int .i64 v.r, .int .i64 v.c, .int .i64 v.b, .int .i64 v.p, .int .i64 a] 118)).alloc (.cells #[.int .i64 m, .int .i64 u.r, .int .i64 u.c, .int .i64 u.b, .int .i64 u.p, .int .i64 c] 118) := ⟨_, rfl⟩
  have B := Lib.hid (show Below w.heap.size w w0 by rw [hw0]; exact ((Below.refl _ _).alloc (Nat.le_refl _) _).alloc (by simp) _)
  go_enter Try.func75, Try.ntmps75
  go_wp2_with fail
  rw [← hw0]
  clear hw0
  go_at_call 79
  (with_reducible refine (hvb.out _).mono ?_)
  rintro e w1 ⟨rfl, hb1⟩
  have B1 := Lib.hid (bt B.out hb1)
  clear B hb1
  go_wp2_with fail
  go_ret
  exact ⟨rfl, B1.out⟩
set_option maxHeartbeats 16000000 in
theorem o_root_way {s : S} {AC : Option Addr} {cC : Nat} {AU : Option Addr} {cU : Nat} {AI : Option Addr} {cI : Nat} {w : World} (hF : Fit s) (hS : SelfR w s AC cC AU cU AI cI) :
    Calls Try.prog 58 #[selfV s.id (.slice AC s.costs.length cC) (.slice AU s.ups.length cU) (.slice AI s.infos.length cI)] w fun e w' => e = .returned (wayV s s.root) ∧ Below w.heap.size w w' := by
  obtain ⟨w0, hw0⟩ : ∃ W, W = w.alloc (.cells #[.int .i64 s.id, .slice AC s.costs.length cC, .slice AU s.ups.length cU, .slice AI s.infos.length cI] 26) := ⟨_, rfl⟩
  have I := Lib.hid (show InS w w0 s AC cC AU cU AI cI by rw [hw0]; exact .new hS)
  obtain ⟨y0, y1, y2, y3, hyl⟩ := I.out.cells
  have hlen : s.infos.length ≤ 8 := by obtain ⟨⟨l1, l2⟩, l3, l4⟩ := hF.len; omega
  replace hF := Lib.hid hF
  clear hS
  obtain ⟨wv, hwv⟩ : ∃ v, wayV s s.root = v := ⟨_, rfl⟩
  rw [hwv]
  replace hwv := Lib.hid hwv
  go_enter Try.func58, Try.ntmps58
  go_wp2_with fail
  rw [← hw0]
  clear hw0 y0 y1 y2 y3 hyl
  go_loopw [3, 12] (fun v3 i wr => ∃ k : Nat, k ≤ s.infos.length ∧ i = .int .i64 k ∧ v3 = wayV s (s.rt k) ∧ InS w wr s AC cC AU cU AI cI) (fun _ i _ => s.infos.length - (intOf i).toNat)
  case atStart => exact ⟨0, by omega, rfl, rfl, I.out⟩
  case round =>
    clear I
    obtain ⟨k, hk, rfl, rfl, I⟩ := hrel
    by_cases hkn : k < s.infos.length
    · obtain ⟨bI, oI, rfl, hbI, q0, q1, q2, q3, q4, q5⟩ := SlN.at_ I.r.infos.sl (info_at (s := s) (p := k) hkn)
      obtain ⟨t, ht⟩ : ∃ t, s.rt k = t := ⟨_, rfl⟩
      rw [ht]
      obtain ⟨u, hu⟩ : ∃ u, s.rt (k + 1) = u := ⟨_, rfl⟩
      obtain ⟨x, hx⟩ : ∃ x, s.info k = x := ⟨_, rfl⟩
      have hx0 := hx
      rw [hx] at q0 q1 q2 q3 q4 q5
      have hkl : (k : Int) < (s.infos.length : Int) := by omega
      have z0 := I.x.lt
      have hkc : k < s.costs.length := by obtain ⟨⟨l1, l2⟩, l3, l4⟩ := hF.out.len; omega
      replace hkc := Lib.hid hkc
      replace I := Lib.hid I
      replace hx := Lib.hid hx
      replace hu := Lib.hid hu
      replace ht := Lib.hid ht
      obtain ⟨hs, hhs⟩ : ∃ h, x.has = h := ⟨_, rfl⟩
      rw [hhs] at q0
      have hhk : (s.info k).has = hs := by rw [hx0, hhs]
      clear hx0
      replace hhk := Lib.hid hhk
      replace hhs := Lib.hid hhs
      cases hs with
      | false =>
        have hu2 := Lib.hid (show u = t by rw [← hu.out, rt_no hhk.out, ht.out])
        go_upto_region 5 with fail
        obtain ⟨w1, hw1⟩ : ∃ W, W = wr.alloc (.cells #[.bool false, .int .i64 x.v.r, .int .i64 x.v.c, .int .i64 x.v.b, .int .i64 x.v.p, .int .i64 x.age] 66) := ⟨_, rfl⟩
        have bw1 : Below wr.heap.size wr w1 := by rw [hw1]; exact (Below.refl _ _).alloc (Nat.le_refl _) _
        have Xw1 : Bx w1 wr.heap.size 66 #[.bool false, .int .i64 x.v.r, .int .i64 x.v.c, .int .i64 x.v.b, .int .i64 x.v.p, .int .i64 x.age] := by rw [hw1]; exact Bx.new _ _ _ rfl
        rw [← hw1]
        clear hw1
        have I_w1 := Lib.hid (I.out.below bw1)
        have N_w1 := Lib.hid (Xw1)
        have z0_w1 : w.heap.size < w1.heap.size := Nat.lt_of_lt_of_le z0 bw1.size
        clear I z0
        have z1_w1 : wr.heap.size < w1.heap.size := Xw1.lt
        clear Xw1
        clear q0 q1 q2 q3 q4 q5 hbI
        have o_N_0 := N_w1.out.c (i := 0) rfl
        have o_N_1 := N_w1.out.c (i := 1) rfl
        have o_N_2 := N_w1.out.c (i := 2) rfl
        have o_N_3 := N_w1.out.c (i := 3) rfl
        have o_N_4 := N_w1.out.c (i := 4) rfl
        have o_N_5 := N_w1.out.c (i := 5) rfl
        go_wp2_with fail
        clear o_N_0 o_N_1 o_N_2 o_N_3 o_N_4 o_N_5
        go_roundw
        case rel => exact ⟨k + 1, by omega, by go_num, by rw [hu.out, hu2.out], I_w1.out⟩
        case measure => simp [intOf]; omega
      | true =>
        cases t with
        | none =>
          obtain ⟨β, hβ⟩ : ∃ β, decide ((s.way k).r < s.id) = β := ⟨_, rfl⟩
          have hib := Lib.hid fun W => ib_none k (s.way k) x.age s.id β hβ W
          have hyes := Lib.hid (show β = true → u = some k from fun h => by rw [← hu.out]; exact rt_first hhk.out ht.out (by rw [h] at hβ; simpa using hβ))
          have hno := Lib.hid (show β = false → u = none from fun h => by rw [← hu.out]; exact rt_none hhk.out ht.out (by rw [h] at hβ; simpa using hβ))
          rw [show wayV s none = noI from rfl]
          have hw9 := Lib.hid (show ∀ v, s.way k = v → wayV s (some k) = pwI k v x.age from fun v hv => by rw [← hv, ← hx.out]; rfl)
          have hwc := Lib.hid (show ∀ (v : V), s.way k = v → ∀ (W : World), SelfR W s AC cC AU cU (some ⟨bI, oI, none⟩) cI → Calls Try.prog 74 #[selfV s.id (.slice AC s.costs.length cC) (.slice AU s.ups.length cU) (.slice (some ⟨bI, oI, none⟩) s.infos.length cI), .int .i64 k] W fun e w' => e = .returned (pw k v x.age) ∧ Below W.heap.size W w' from fun v hv W hS => by
            have := o_way hF.out hS hkn hhk.out
            rwa [hv, hx.out] at this)
          obtain ⟨v, hv⟩ : ∃ v, s.way k = v := ⟨_, rfl⟩
          replace hw9 := Lib.hid (hw9.out _ hv)
          replace hwc := Lib.hid (hwc.out _ hv)
          rw [hv] at hib
          clear hβ
          replace hv := Lib.hid hv
          go_upto_region 5 with fail
          obtain ⟨w1, hw1⟩ : ∃ W, W = wr.alloc (.cells #[.bool true, .int .i64 x.v.r, .int .i64 x.v.c, .int .i64 x.v.b, .int .i64 x.v.p, .int .i64 x.age] 66) := ⟨_, rfl⟩
          have bw1 : Below wr.heap.size wr w1 := by rw [hw1]; exact (Below.refl _ _).alloc (Nat.le_refl _) _
          have Xw1 : Bx w1 wr.heap.size 66 #[.bool true, .int .i64 x.v.r, .int .i64 x.v.c, .int .i64 x.v.b, .int .i64 x.v.p, .int .i64 x.age] := by rw [hw1]; exact Bx.new _ _ _ rfl
          rw [← hw1]
          clear hw1
          have I_w1 := Lib.hid (I.out.below bw1)
          have N_w1 := Lib.hid (Xw1)
          have z0_w1 : w.heap.size < w1.heap.size := Nat.lt_of_lt_of_le z0 bw1.size
          clear I z0
          have z1_w1 : wr.heap.size < w1.heap.size := Xw1.lt
          clear Xw1
          clear q0 q1 q2 q3 q4 q5 hbI
          have o_N_0 := N_w1.out.c (i := 0) rfl
          have o_N_1 := N_w1.out.c (i := 1) rfl
          have o_N_2 := N_w1.out.c (i := 2) rfl
          have o_N_3 := N_w1.out.c (i := 3) rfl
          have o_N_4 := N_w1.out.c (i := 4) rfl
          have o_N_5 := N_w1.out.c (i := 5) rfl
          have o_I_0 := I_w1.out.c (i := 0) rfl
          have o_I_1 := I_w1.out.c (i := 1) rfl
          have o_I_2 := I_w1.out.c (i := 2) rfl
          have o_I_3 := I_w1.out.c (i := 3) rfl
          go_wp2_with fail
          clear o_N_0 o_N_1 o_N_2 o_N_3 o_N_4 o_N_5 o_I_0 o_I_1 o_I_2 o_I_3
          go_at_call 74
          (with_reducible refine (hwc.out _ I_w1.out.r).mono ?_)
          rintro e w2 ⟨rfl, hb2⟩
          have I_w2 := Lib.hid (I_w1.out.below hb2)
          have N_w2 := Lib.hid (N_w1.out.below hb2)
          have z0_w2 : w.heap.size < w2.heap.size := Nat.lt_of_lt_of_le z0_w1 hb2.size
          have z1_w2 : wr.heap.size < w2.heap.size := Nat.lt_of_lt_of_le z1_w1 hb2.size
          have B_w2 := bt bw1 hb2
          clear I_w1 N_w1 z0_w1 z1_w1 bw1 hb2
          go_upto_region 7 with fail
          obtain ⟨w3, hw3⟩ : ∃ W, W = w2.alloc (.cells #[.int .i64 k, .int .i64 v.r, .int .i64 v.c, .int .i64 v.b, .int .i64 v.p, .int .i64 x.age] 118) := ⟨_, rfl⟩
          have bw3 : Below w2.heap.size w2 w3 := by rw [hw3]; exact (Below.refl _ _).alloc (Nat.le_refl _) _
          have Xw3 : Bx w3 w2.heap.size 118 #[.int .i64 k, .int .i64 v.r, .int .i64 v.c, .int .i64 v.b, .int .i64 v.p, .int .i64 x.age] := by rw [hw3]; exact Bx.new _ _ _ rfl
          rw [← hw3]
          clear hw3
          have I_w3 := Lib.hid (I_w2.out.below bw3)
          have N_w3 := Lib.hid (N_w2.out.below bw3)
          have Y_w3 := Lib.hid (Xw3)
          have z0_w3 : w.heap.size < w3.heap.size := Nat.lt_of_lt_of_le z0_w2 bw3.size
          have z1_w3 : wr.heap.size < w3.heap.size := Nat.lt_of_lt_of_le z1_w2 bw3.size
          have B_w3 := bt B_w2 bw3
          clear I_w2 N_w2 z0_w2 z1_w2 B_w2 bw3
          have z2_w3 : w2.heap.size < w3.heap.size := Xw3.lt
          clear Xw3
          have o_Y_0 := Y_w3.out.c (i := 0) rfl
          have o_Y_1 := Y_w3.out.c (i := 1) rfl
          have o_Y_2 := Y_w3.out.c (i := 2) rfl
          have o_Y_3 := Y_w3.out.c (i := 3) rfl
          have o_Y_4 := Y_w3.out.c (i := 4) rfl
          have o_Y_5 := Y_w3.out.c (i := 5) rfl
          have o_I_0 := I_w3.out.c (i := 0) rfl
          have o_I_1 := I_w3.out.c (i := 1) rfl
          have o_I_2 := I_w3.out.c (i := 2) rfl
          have o_I_3 := I_w3.out.c (i := 3) rfl
          go_wp2_with fail
          clear o_Y_0 o_Y_1 o_Y_2 o_Y_3 o_Y_4 o_Y_5 o_I_0 o_I_1 o_I_2 o_I_3
          go_at_call 75
          (with_reducible refine (hib.out _).mono ?_)
          rintro e w4 ⟨rfl, hb4⟩
          have I_w4 := Lib.hid (I_w3.out.below hb4)
          have N_w4 := Lib.hid (N_w3.out.below hb4)
          have Y_w4 := Lib.hid (Y_w3.out.below hb4)
          have z0_w4 : w.heap.size < w4.heap.size := Nat.lt_of_lt_of_le z0_w3 hb4.size
          have z1_w4 : wr.heap.size < w4.heap.size := Nat.lt_of_lt_of_le z1_w3 hb4.size
          have z2_w4 : w2.heap.size < w4.heap.size := Nat.lt_of_lt_of_le z2_w3 hb4.size
          have B_w4 := bt B_w3 hb4
          clear I_w3 N_w3 Y_w3 z0_w3 z1_w3 z2_w3 B_w3 hb4
          have o_Y_0 := Y_w4.out.c (i := 0) rfl
          have o_Y_1 := Y_w4.out.c (i := 1) rfl
          have o_Y_2 := Y_w4.out.c (i := 2) rfl
          have o_Y_3 := Y_w4.out.c (i := 3) rfl
          have o_Y_4 := Y_w4.out.c (i := 4) rfl
          have o_Y_5 := Y_w4.out.c (i := 5) rfl
          cases β
          · go_wp2_with fail
            go_roundw
            case rel => exact ⟨k + 1, by omega, by go_num, by rw [hu.out, hno.out (by trivial)]; rfl, I_w4.out⟩
            case measure => simp [intOf]; omega
          · go_wp2_with fail
            go_roundw
            case rel => exact ⟨k + 1, by omega, by go_num, by rw [hu.out, hyes.out (by trivial), hw9.out], I_w4.out⟩
            case measure => simp [intOf]; omega
        | some b =>
          obtain ⟨β, hβ⟩ : ∃ β, (s.way k).bet (s.way b) = β := ⟨_, rfl⟩
          have hbl := rt_lt ht.out
          have hbc : b < s.costs.length := by have := hkc.out; omega
          have hib := Lib.hid fun W => ib_port k (s.way k) x.age b (s.way b) (s.info b).age s.id β (wk_ok hF.out.ok hkc.out hhk.out) (wk_ok hF.out.ok hbc hbl.2) hβ W
          have hyes := Lib.hid (show β = true → u = some k from fun h => by rw [← hu.out]; exact rt_yes hhk.out ht.out (by rw [hβ, h]))
          have hno := Lib.hid (show β = false → u = some b from fun h => by rw [← hu.out]; exact rt_keep ht.out (by rw [hβ, h]))
          rw [show wayV s (some b) = pwI b (s.way b) (s.info b).age from rfl]
          clear hbl hbc
          have hw9 := Lib.hid (show ∀ v, s.way k = v → wayV s (some k) = pwI k v x.age from fun v hv => by rw [← hv, ← hx.out]; rfl)
          have hwc := Lib.hid (show ∀ (v : V), s.way k = v → ∀ (W : World), SelfR W s AC cC AU cU (some ⟨bI, oI, none⟩) cI → Calls Try.prog 74 #[selfV s.id (.slice AC s.costs.length cC) (.slice AU s.ups.length cU) (.slice (some ⟨bI, oI, none⟩) s.infos.length cI), .int .i64 k] W fun e w' => e = .returned (pw k v x.age) ∧ Below W.heap.size W w' from fun v hv W hS => by
            have := o_way hF.out hS hkn hhk.out
            rwa [hv, hx.out] at this)
          obtain ⟨v, hv⟩ : ∃ v, s.way k = v := ⟨_, rfl⟩
          replace hw9 := Lib.hid (hw9.out _ hv)
          replace hwc := Lib.hid (hwc.out _ hv)
          rw [hv] at hib
          clear hβ
          replace hv := Lib.hid hv
          have hwb := Lib.hid (show wayV s (some b) = pwI b (s.way b) (s.info b).age from rfl)
          generalize s.way b = vb at *
          generalize (s.info b).age = ab at *
          go_upto_region 5 with fail
          obtain ⟨w1, hw1⟩ : ∃ W, W = wr.alloc (.cells #[.bool true, .int .i64 x.v.r, .int .i64 x.v.c, .int .i64 x.v.b, .int .i64 x.v.p, .int .i64 x.age] 66) := ⟨_, rfl⟩
          have bw1 : Below wr.heap.size wr w1 := by rw [hw1]; exact (Below.refl _ _).alloc (Nat.le_refl _) _
          have Xw1 : Bx w1 wr.heap.size 66 #[.bool true, .int .i64 x.v.r, .int .i64 x.v.c, .int .i64 x.v.b, .int .i64 x.v.p, .int .i64 x.age] := by rw [hw1]; exact Bx.new _ _ _ rfl
          rw [← hw1]
          clear hw1
          have I_w1 := Lib.hid (I.out.below bw1)
          have N_w1 := Lib.hid (Xw1)
          have z0_w1 : w.heap.size < w1.heap.size := Nat.lt_of_lt_of_le z0 bw1.size
          clear I z0
          have z1_w1 : wr.heap.size < w1.heap.size := Xw1.lt
          clear Xw1
          clear q0 q1 q2 q3 q4 q5 hbI
          have o_N_0 := N_w1.out.c (i := 0) rfl
          have o_N_1 := N_w1.out.c (i := 1) rfl
          have o_N_2 := N_w1.out.c (i := 2) rfl
          have o_N_3 := N_w1.out.c (i := 3) rfl
          have o_N_4 := N_w1.out.c (i := 4) rfl
          have o_N_5 := N_w1.out.c (i := 5) rfl
          have o_I_0 := I_w1.out.c (i := 0) rfl
          have o_I_1 := I_w1.out.c (i := 1) rfl
          have o_I_2 := I_w1.out.c (i := 2) rfl
          have o_I_3 := I_w1.out.c (i := 3) rfl
          go_wp2_with fail
          clear o_N_0 o_N_1 o_N_2 o_N_3 o_N_4 o_N_5 o_I_0 o_I_1 o_I_2 o_I_3
          go_at_call 74
          (with_reducible refine (hwc.out _ I_w1.out.r).mono ?_)
          rintro e w2 ⟨rfl, hb2⟩
          have I_w2 := Lib.hid (I_w1.out.below hb2)
          have N_w2 := Lib.hid (N_w1.out.below hb2)
          have z0_w2 : w.heap.size < w2.heap.size := Nat.lt_of_lt_of_le z0_w1 hb2.size
          have z1_w2 : wr.heap.size < w2.heap.size := Nat.lt_of_lt_of_le z1_w1 hb2.size
          have B_w2 := bt bw1 hb2
          clear I_w1 N_w1 z0_w1 z1_w1 bw1 hb2
          go_upto_region 7 with fail
          obtain ⟨w3, hw3⟩ : ∃ W, W = w2.alloc (.cells #[.int .i64 k, .int .i64 v.r, .int .i64 v.c, .int .i64 v.b, .int .i64 v.p, .int .i64 x.age] 118) := ⟨_, rfl⟩
          have bw3 : Below w2.heap.size w2 w3 := by rw [hw3]; exact (Below.refl _ _).alloc (Nat.le_refl _) _
          have Xw3 : Bx w3 w2.heap.size 118 #[.int .i64 k, .int .i64 v.r, .int .i64 v.c, .int .i64 v.b, .int .i64 v.p, .int .i64 x.age] := by rw [hw3]; exact Bx.new _ _ _ rfl
          rw [← hw3]
          clear hw3
          have I_w3 := Lib.hid (I_w2.out.below bw3)
          have N_w3 := Lib.hid (N_w2.out.below bw3)
          have Y_w3 := Lib.hid (Xw3)
          have z0_w3 : w.heap.size < w3.heap.size := Nat.lt_of_lt_of_le z0_w2 bw3.size
          have z1_w3 : wr.heap.size < w3.heap.size := Nat.lt_of_lt_of_le z1_w2 bw3.size
          have B_w3 := bt B_w2 bw3
          clear I_w2 N_w2 z0_w2 z1_w2 B_w2 bw3
          have z2_w3 : w2.heap.size < w3.heap.size := Xw3.lt
          clear Xw3
          have o_Y_0 := Y_w3.out.c (i := 0) rfl
          have o_Y_1 := Y_w3.out.c (i := 1) rfl
          have o_Y_2 := Y_w3.out.c (i := 2) rfl
          have o_Y_3 := Y_w3.out.c (i := 3) rfl
          have o_Y_4 := Y_w3.out.c (i := 4) rfl
          have o_Y_5 := Y_w3.out.c (i := 5) rfl
          have o_I_0 := I_w3.out.c (i := 0) rfl
          have o_I_1 := I_w3.out.c (i := 1) rfl
          have o_I_2 := I_w3.out.c (i := 2) rfl
          have o_I_3 := I_w3.out.c (i := 3) rfl
          go_wp2_with fail
          clear o_Y_0 o_Y_1 o_Y_2 o_Y_3 o_Y_4 o_Y_5 o_I_0 o_I_1 o_I_2 o_I_3
          go_at_call 75
          (with_reducible refine (hib.out _).mono ?_)
          rintro e w4 ⟨rfl, hb4⟩
          have I_w4 := Lib.hid (I_w3.out.below hb4)
          have N_w4 := Lib.hid (N_w3.out.below hb4)
          have Y_w4 := Lib.hid (Y_w3.out.below hb4)
          have z0_w4 : w.heap.size < w4.heap.size := Nat.lt_of_lt_of_le z0_w3 hb4.size
          have z1_w4 : wr.heap.size < w4.heap.size := Nat.lt_of_lt_of_le z1_w3 hb4.size
          have z2_w4 : w2.heap.size < w4.heap.size := Nat.lt_of_lt_of_le z2_w3 hb4.size
          have B_w4 := bt B_w3 hb4
          clear I_w3 N_w3 Y_w3 z0_w3 z1_w3 z2_w3 B_w3 hb4
          have o_Y_0 := Y_w4.out.c (i := 0) rfl
          have o_Y_1 := Y_w4.out.c (i := 1) rfl
          have o_Y_2 := Y_w4.out.c (i := 2) rfl
          have o_Y_3 := Y_w4.out.c (i := 3) rfl
          have o_Y_4 := Y_w4.out.c (i := 4) rfl
          have o_Y_5 := Y_w4.out.c (i := 5) rfl
          cases β
          · go_wp2_with fail
            go_roundw
            case rel => exact ⟨k + 1, by omega, by go_num, by rw [hu.out, hno.out (by trivial), hwb.out], I_w4.out⟩
            case measure => simp [intOf]; omega
          · go_wp2_with fail
            go_roundw
            case rel => exact ⟨k + 1, by omega, by go_num, by rw [hu.out, hyes.out (by trivial), hw9.out], I_w4.out⟩
            case measure => simp [intOf]; omega
    · have ek : k = s.infos.length := by omega
      subst ek
      rw [rt_root, hwv.out]
      replace I := Lib.hid I
      go_wp2_with fail
      go_ret
      exact ⟨rfl, I.out.b⟩
end Go.Proofs.Ytidoaccidmmalaa.RoleP
