/-
  Contracts of relay's taken, Egress; all of relay's own contracts.
-/
import Derived.Test.YtajihgpkaklgiaaRelID
namespace Go.Proofs.Ytajihgpkaklgiaa.RelP
open Go.RowKit Go.Sort Go.Shelf Go.Proofs.Ytajihgpkaklgiaa.SliceP Go.Proofs.Ytajihgpkaklgiaa.BoxP
open Go.Proofs.Ytajihgpkaklgiaa.IntP (RowI SlI OwnI RetI)
set_option linter.unusedVariables false
set_option maxRecDepth 100000
attribute [local go_sem] Oper.semAt_some
abbrev isv (c o : Int) : Value := .func (.func 22) #[.agg #[.int .i64 c, .int .i64 o]] #[]
theorem filter_snoc (q : Int → Bool) (pre : List Int) (x : Int) : (pre ++ [x]).filter q = if q x = true then pre.filter q ++ [x] else pre.filter q := by
  rw [List.filter_append]
  by_cases h : q x = true
  · rw [if_pos h]; simp [h]
  · rw [if_neg h]; simp [h]
theorem filter_le (q : Int → Bool) (pre : List Int) : (pre.filter q).length ≤ pre.length := List.length_filter_le _ _
set_option maxHeartbeats 8000000 in
theorem i_taken (c o : Int) (Bs : Nat) (A : Option Addr) (cap : Nat) (zs : List St) (p : Nat) (w : World) (hlt : Bs + 1 < w.heap.size)
    (hB0 : w.cell? ⟨Bs, 0, none⟩ = some (.slice A zs.length cap)) (hB1 : w.cell? ⟨Bs + 1, 0, none⟩ = some (.int .i64 (p : Int))) (hr : RowP w A zs.length cap zs) (hp : p < zs.length) (hl : zs.length ≤ 1000) :
    Calls Try.prog 21 #[itv Bs, isv c o] w (RetI w ((flood zs p).filter (byI c o))) := by
  obtain ⟨i0, hi, hz0, hz1, hz2⟩ := info_parts infoI
  have hS := Lib.hid (ways_stops (n := 3) (by decide) Bs A cap zs p w hlt hB0 hB1 hr hp hl)
  have B0 : Below w.heap.size w ((w.alloc (.cells #[isv c o] 49)).alloc (.cells #[.slice none 0 0] 24)) := ((Below.refl _ _).alloc (Nat.le_refl _) _).alloc (by simp) _
  clear hB0 hB1 hr
  replace hi := Lib.hid hi
  replace hz0 := Lib.hid hz0
  replace hz1 := Lib.hid hz1
  replace hz2 := Lib.hid hz2
  refine (callsIn_wide (n := 4)).1 ?_
  refine callsIn_of_wp_marks Try.func21 rfl trivial ?_ rfl
  simp only [Try.ntmps21, List.size_toArray, List.length_cons, List.length_nil, Nat.reduceAdd, Nat.reduceSub, Array.replicate_succ, Array.replicate_zero, List.push_toArray, List.append_toArray, List.nil_append, List.cons_append]
  gi_wp2
  have bF := Boxed.new w 49 (isv c o)
  have bG := Boxed.new (w.alloc (.cells #[isv c o] 49)) 24 (.slice none 0 0)
  simp only [World.size_alloc] at bG
  refine wpIn_rangeFunc_ownG (n := 4) rfl (by decide) (gf := 26) (lb := #[.pointer (some ⟨Bs, 0, none⟩), .pointer (some ⟨Bs + 1, 0, none⟩)]) rfl trivial (enters_of Try.func26 (by kernel_rfl) rfl)
    hS.out belowK_t (belowK_b (by simp; omega)) B0 (fun _ => rfl)
    (fun pre W => (∃ v, Boxed W (w.heap.size + 1) 24 v ∧ rowI W (w.heap.size + 1) v (pre.filter (byI c o))) ∧ Boxed W w.heap.size 49 (isv c o) ∧ Below w.heap.size w W ∧ w.heap.size + 1 ≤ W.heap.size)
    (fun _ _ _ => False)
    (by
      intro s X Y row hs hg hr
      obtain ⟨⟨v, h1, h2⟩, hf, h3, h4⟩ := hs
      have hr' : ∀ r, row = some r → ∃ o : Obj, X.heap[r]? = some o ∧ o.isCells = false := fun r e => (hr r e).2
      obtain ⟨v', h1', h2', _⟩ := holdsRow_own (w.heap.size + 1) (w.heap.size + 1) 24 3 1 (fun p : List Int => (p.filter (byI c o)).length) (fun p => (p.filter (byI c o)).map (Value.int .i64)) (fun _ _ => True) s X Y row ⟨v, h1, h2, trivial⟩ hg hr'
      exact ⟨⟨v', h1', h2'⟩, boxed_ownF _ _ _ X Y row hf hg hr', ownFrom_below (n₀ := w.heap.size) (w₀ := w) (Nat.le_refl _) (by simp; omega) s X Y row h3 hg hr, Nat.le_trans h4 hg.size⟩)
    (fun _ _ _ _ _ hs _ _ => hs)
    ⟨⟨_, bG, World.ownsRow_nil _ _ _ _⟩, bF.alloc _, B0, by simp⟩
    (fun x => { tmps := #[itv Bs, isv c o, undef, .pointer (some ⟨w.heap.size, 0, none⟩), .slice none 0 0, .pointer (some ⟨w.heap.size + 1, 0, none⟩), .int .i64 x, itv Bs, .int .i64 x, undef, undef, undef, undef, undef, undef, undef, undef], defers := [] }) ?assign ?body ?done ?stop
  case assign =>
    intro l x W K hK
    gi_wp2
    exact hK
  case body =>
    rintro lb pre x W ⟨⟨v, hv, hrow⟩, hF, hB, hn⟩ hlt2
    obtain ⟨q, hq⟩ : ∃ q, byI c o x = q := ⟨_, rfl⟩
    have hsn := filter_snoc (byI c o) pre x
    rw [hq] at hsn
    have hle := filter_le (byI c o) pre
    obtain ⟨m, hm⟩ : ∃ m, pre.filter (byI c o) = m := ⟨_, rfl⟩
    rw [hm] at hrow hsn hle
    replace hsn := Lib.hid hsn
    replace hm := Lib.hid hm
    have hfc := hF.cell
    replace hq := Lib.hid hq
    have hs := hB.size
    replace hB := Lib.hid hB
    replace hF := Lib.hid hF
    replace hv := Lib.hid hv
    replace hrow := Lib.hid hrow
    clear bG bF B0
    gi_wp2
    refine ⟨trivial, ?_⟩
    refine (CallsIn.inRound lb (callsIn_wide.2 (i_isby c o x W hq.out))).mono ?_
    rintro e w5 ⟨rfl, hb5⟩
    have hk5 := Lib.hid (KeepsOthers.of_grownBy (grownN hb5) (fun j e ej => by cases ej))
    have hv5 : Boxed w5 (w.heap.size + 1) 24 v := (hb5.block _ hv.out.lt).trans hv.out
    have hF5 : Boxed w5 w.heap.size 49 (isv c o) := (hb5.block _ hF.out.lt).trans hF.out
    have hrow5 := Lib.hid (hrow.out.kept (grownN hb5) (by cases v.ownBlock <;> simp))
    have hB5 := Lib.hid (hB.out.trans (hb5.mono hs))
    have hn5 := Nat.le_trans hn hb5.size
    have hs5 := Nat.le_trans hs hb5.size
    clear hfc
    cases q
    · replace hv5 := Lib.hid hv5
      replace hF5 := Lib.hid hF5
      gi_wp2
      exact ⟨hk5.out.from _, hb5.mono hs, ⟨_, hv5.out, by rw [hsn.out]; simpa using hrow5.out⟩, hF5.out, hB5.out, hn5⟩
    · obtain ⟨A', c', rfl⟩ := rowI_form hrow.out
      have hc1 := hv5.cell
      have hf1 := hv5.frozen
      replace hv5 := Lib.hid hv5
      replace hF5 := Lib.hid hF5
      gi_wp2_with (gi_at_builtin; refine wpListIn_append_own _ rfl _ _ 24 rfl (w.heap.size + 1) 3 i0 (.int .i64 0) 1 8 Try.underlying24 hi.out hz0.out hz1.out hz2.out rfl (by decide) _ _ _ rfl (hrow5.out.alloc _) ⟨w5.heap.size, 0, none⟩ 1 1 [.int .i64 x] rfl rfl (cell_one_new _ _ _) (by simp [Value.oneCell']) (by unfold maxLen; omega) (by omega) (by simp; omega) ?_; intro v' w1 hown' hgrow _; obtain ⟨g', cap', rfl⟩ := ownsRow_succ hown'; obtain ⟨hv1, hv2, hr2, hk2, hb2⟩ := Boxed.appended hv5.out (by decide) hrow5.out hn5 (Nat.le_refl _) hown' hgrow; have hc1' := hv1.cell; have hf1' := hv1.frozen)
      have hb6 : Below w.heap.size w5 _ := hb2.mono (Nat.le_succ _)
      refine ⟨(hk5.out.trans hk2).from _, (hb5.mono hs).trans hb6, ⟨_, hv2, by rw [hsn.out]; exact rowI_snoc hr2⟩, (hb2.block _ (by omega)).trans hF5.out, hB5.out.trans hb6, Nat.le_trans hn5 hb2.size⟩
  case done =>
    rintro D ys W hD rfl ⟨⟨v, hv, hrow⟩, hF, hB, hn⟩ hK
    obtain ⟨A', c', rfl⟩ := rowI_form hrow
    have hc1 := hv.cell
    have hf1 := hv.frozen
    replace hrow := Lib.hid hrow
    replace hB := Lib.hid hB
    replace hF := Lib.hid hF
    clear hv bG bF B0
    gi_wp2
    refine ⟨by simp, .inl ⟨_, _, rfl, run_takeDeferred hK, ?_⟩⟩
    have hDw : w.heap.size ≤ D := by simp at hD; omega
    exact ⟨_, results_tmp rfl _ _ _, _, _, rfl, SliceP.Own.base (rowI_own (ownsRow_putObj hrow.out _ hK rfl)) (by omega), hB.out.trans (belowK_b (w := w) (Nat.le_refl _) _ D _ _ hDw hK rfl rfl)⟩
  case stop =>
    rintro D c pre W hD _ h _
    exact h.elim
set_option maxHeartbeats 8000000 in
theorem i_egress_no {A : Option Addr} {c : Nat} {l : List St} {w : World} {p cl o er : Int} (hr : RowP w A l.length c l) (hl : l.length ≤ 12) (he : why l p = er) (h0 : er ≠ 0) : Calls Try.prog 8 #[.slice A l.length c, .int .i64 p, .int .i64 cl, .int .i64 o] w fun e w' => ∃ A' c', e = .returned (.tuple #[.slice A' 0 c', .int .i64 er]) ∧ Below w.heap.size w w' := by
  have hne : (er == 0) = false := by simpa using h0
  replace h0 := Lib.hid h0
  have hC := Lib.hid (i_check (p := p) hr (by omega) he)
  clear hr he
  go_enter Try.func8, Try.ntmps8
  go_wp2_with fail
  go_at_call 17
  (with_reducible refine hC.out.mono ?_)
  rintro e w1 ⟨rfl, hb1⟩
  replace hb1 := Lib.hid hb1
  go_wp2_with fail
  go_ret2
  exact ⟨_, _, rfl, hb1.out⟩
set_option maxHeartbeats 8000000 in
theorem i_egress_arg {A : Option Addr} {c : Nat} {l : List St} {w : World} {p : Nat} {cl o : Int} (hr : RowP w A l.length c l) (hl : l.length ≤ 12) (he : why l p = 0) (hb : badC cl o = true) : Calls Try.prog 8 #[.slice A l.length c, .int .i64 (p : Int), .int .i64 cl, .int .i64 o] w fun e w' => ∃ A' c', e = .returned (.tuple #[.slice A' 0 c', .int .i64 1]) ∧ Below w.heap.size w w' := by
  have hC := Lib.hid (i_check (p := (p : Int)) hr (by omega) he)
  clear hr he
  have hR := Lib.hid (fun W => i_isright cl o W (b := false) (by rw [hb]; rfl))
  clear hb
  go_enter Try.func8, Try.ntmps8
  go_wp2_with fail
  go_at_call 17
  (with_reducible refine hC.out.mono ?_)
  rintro e w1 ⟨rfl, hb1⟩
  replace hb1 := Lib.hid hb1
  go_wp2_with fail
  go_at_call 20
  (with_reducible refine (hR.out _).mono ?_)
  rintro e w2 ⟨rfl, hb2⟩
  have B2 := Lib.hid (bt hb1.out (bt ((Below.refl _ _).alloc (Nat.le_refl _) _) hb2))
  clear hb2
  go_wp2_with fail
  go_ret2
  exact ⟨_, _, rfl, B2.out⟩
set_option maxHeartbeats 8000000 in
theorem i_egress_ok {A : Option Addr} {c : Nat} {l : List St} {w : World} {p : Nat} {cl o : Int} (hr : RowP w A l.length c l) (hl : l.length ≤ 12) (he : why l p = 0) (hb : badC cl o = false) : Calls Try.prog 8 #[.slice A l.length c, .int .i64 (p : Int), .int .i64 cl, .int .i64 o] w fun e w' => ∃ A' c', e = .returned (.tuple #[.slice A' (egress l p cl o).length c', .int .i64 0]) ∧ RowI w' A' (egress l p cl o).length c' (egress l p cl o) ∧ Below w.heap.size w w' := by
  obtain ⟨ha, _, _, _, hp⟩ := why_zero he
  have hpl : p < l.length := by omega
  have hC := Lib.hid (i_check (p := (p : Int)) hr (by omega) he)
  have H := Lib.hid hr
  rw [egress_by hb]
  have hR := Lib.hid (fun W => i_isright cl o W (b := true) (by rw [hb]; rfl))
  clear hr he ha hb
  go_enter Try.func8, Try.ntmps8
  go_wp2_with fail
  go_at_call 17
  (with_reducible refine hC.out.mono ?_)
  rintro e w1 ⟨rfl, hb1⟩
  have H1 := Lib.hid (H.out.below hb1)
  replace hb1 := Lib.hid hb1
  go_upto_region 5 with fail
  obtain ⟨w2, hw2⟩ : ∃ W, W = w1.alloc (.cells #[.int .i64 cl, .int .i64 o] 47) := ⟨_, rfl⟩
  rw [← hw2]
  have b2 : Below w1.heap.size w1 w2 := by rw [hw2]; exact (Below.refl _ _).alloc (Nat.le_refl _) _
  have X2 : Bx w2 w1.heap.size 47 #[.int .i64 cl, .int .i64 o] := by rw [hw2]; exact Bx.new _ _ _ rfl
  have x0 := X2.c (i := 0) rfl
  have x1 := X2.c (i := 1) rfl
  have zz := X2.lt
  have B2 := Lib.hid (bt hb1.out b2)
  have H2 := Lib.hid (H1.out.below b2)
  replace X2 := Lib.hid X2
  clear hw2 b2
  go_wp2_with fail
  go_at_call 20
  (with_reducible refine (hR.out _).mono ?_)
  rintro e w3 ⟨rfl, hb3⟩
  have B3 := Lib.hid (bt B2.out hb3)
  have H3 := Lib.hid (H2.out.below hb3)
  have X3 := Lib.hid (X2.out.below hb3)
  clear x0 x1 zz hb3
  have x0 := X3.out.c (i := 0) rfl
  have x1 := X3.out.c (i := 1) rfl
  have zz := X3.out.lt
  have hWy := Lib.hid (fun W => i_ways A l.length c (p : Int) W)
  have hT := Lib.hid (fun (Bs : Nat) W (h : Bs + 1 < W.heap.size) h0 h1 (hb : Below w3.heap.size w3 W) => i_taken cl o Bs A c l p W h h0 h1 (H3.out.below hb) hpl (by omega))
  go_wp2_with fail
  go_region_with (first
    | (go_at_call 19; (with_reducible refine (hWy.out _).mono ?_); rintro e w5 ⟨rfl, hw5⟩
       have b5 : Below w3.heap.size w3 w5 := by rw [hw5]; exact (((Below.refl _ _).drew).alloc (Nat.le_refl _) _).alloc (by simp) _
       have hs5 : w3.heap.size + 1 < w5.heap.size := by rw [hw5]; simp
       have k0 : w5.cell? ⟨w3.heap.size, 0, none⟩ = some (.slice A l.length c) := by rw [hw5]; go_simp
       have k1 : w5.cell? ⟨w3.heap.size + 1, 0, none⟩ = some (.int .i64 (p : Int)) := by rw [hw5]; go_simp
       have hT5 := Lib.hid (hT.out w3.heap.size w5 hs5 k0 k1 b5)
       have b5' := Lib.hid b5
       have y0 := (X3.out.below b5).c (i := 0) rfl
       have y1 := (X3.out.below b5).c (i := 1) rfl
       have yy := (X3.out.below b5).lt
       clear hw5 k0 k1 hs5 b5)
    | (go_at_call 21; (with_reducible refine hT5.out.mono ?_); rintro e w6 ⟨A6, c6, rfl, o6, hb6⟩
       have B6 := Lib.hid (bt (bt B3.out b5'.out) hb6)
       have o6' := Lib.hid o6
       clear hb6 o6))
  all_goals
    go_wp2_with fail
    go_ret2
    exact ⟨_, _, rfl, IntP.own_row o6'.out, B6.out⟩
/-- Relay's own contracts, as the landed code has them. -/
theorem rel_c : RelC where
  flood_no := i_flood_no
  flood_ok := i_flood_ok
  egress_no := i_egress_no
  egress_arg := i_egress_arg
  egress_ok := i_egress_ok
  takes_no := i_takes_no
  takes_ok := i_takes_ok
end Go.Proofs.Ytajihgpkaklgiaa.RelP
