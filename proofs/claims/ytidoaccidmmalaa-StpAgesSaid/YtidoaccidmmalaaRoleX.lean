/-
  Contract of footwayref11: RootPort.
-/
import Derived.Test.YtidoaccidmmalaaRoleW
import Derived.Deep.Cut
namespace Go.Proofs.Ytidoaccidmmalaa.RoleP
open Go.RowKit Go.Sort Go.Proofs.Ytidoaccidmmalaa.SliceP Go.Proofs.Ytidoaccidmmalaa.BoxP Go.Proofs.Ytidoaccidmmalaa.VecP
open Go.Proofs.Ytidoaccidmmalaa.IntP (RowI SlI OwnI)
open Go.Proofs.Ytidoaccidmmalaa.BoolP (RowB SlB)
set_option linter.unusedVariables false
set_option maxRecDepth 100000
theorem ref_bet (x y : V) (b : Bool) (h : x.bet y = b) (w : World) : Calls Try.prog 47 #[vv x.r x.c x.b x.p, vv y.r y.c y.b y.p] w fun e w' => e = .returned (.bool b) ∧ Below w.heap.size w w' := by
  have := ref_better_any x.r x.c x.b x.p y.r y.c y.b y.p w
  unfold V.bet at h
  rwa [h] at this
section
variable {s : S}
theorem best_no {k : Nat} (h : (s.info k).has = false) : s.best (k + 1) = s.best k := by rw [S.best, if_neg (by rw [h]; simp)]
theorem best_first {k : Nat} (h : (s.info k).has = true) (hb : s.best k = none) : s.best (k + 1) = some k := by rw [S.best, if_pos ⟨h, fun b e => by rw [hb] at e; cases e⟩]
theorem best_yes {k b : Nat} (h : (s.info k).has = true) (hb : s.best k = some b) (hw : (s.way k).bet (s.way b) = true) : s.best (k + 1) = some k := by rw [S.best, if_pos ⟨h, fun b' e => by rw [hb] at e; obtain rfl := Option.some.inj e; exact hw⟩]
theorem best_keep {k b : Nat} (hb : s.best k = some b) (hw : (s.way k).bet (s.way b) = false) : s.best (k + 1) = some b := by
  rw [S.best, if_neg (fun h => by have := h.2 b hb; rw [hw] at this; cases this)]; exact hb
end
theorem field0 (a b c d : Int) (w : World) : (Instr.field 31 (.agg #[.int .i64 a, .int .i64 b, .int .i64 c, .int .i64 d]) 0).run Try.prog w = .ok (.int .i64 a) w := by kernel_rfl
/-- What RootPort asks of a bridge: it may be. -/
structure Fit (s : S) : Prop where
  ok : s.ok = true
theorem Fit.len {s : S} (h : Fit s) : (1 ≤ s.costs.length ∧ s.costs.length ≤ 8) ∧ s.ups.length = s.costs.length ∧ s.infos.length = s.costs.length := by
  obtain ⟨_, h1, h2, h3⟩ := head_iff.1 (ok_head h.ok)
  exact ⟨h1, h2, h3⟩
theorem f_way {s : S} {AC : Option Addr} {cC : Nat} {AU : Option Addr} {cU : Nat} {AI : Option Addr} {cI : Nat} {w : World} (hF : Fit s) (hS : SelfR w s AC cC AU cU AI cI) {p : Nat} (hp : p < s.infos.length) : Calls Try.prog 80 #[selfV s.id (.slice AC s.costs.length cC) (.slice AU s.ups.length cU) (.slice AI s.infos.length cI), .int .i64 p] w fun e w' => e = .returned (.agg #[.int .i64 (s.way p).r, .int .i64 (s.way p).c, .int .i64 (s.way p).b, .int .i64 (s.way p).p]) ∧ Below w.heap.size w w' := by
  obtain ⟨⟨l1, l2⟩, l3, l4⟩ := hF.len
  exact r_way hS (by omega) hp (way_bd hF.ok (by omega)) (by omega)
set_option maxHeartbeats 16000000 in
theorem r_root {s : S} {AC : Option Addr} {cC : Nat} {AU : Option Addr} {cU : Nat} {AI : Option Addr} {cI : Nat} {w : World} (hF : Fit s) (hS : SelfR w s AC cC AU cU AI cI) :
    Calls Try.prog 70 #[selfV s.id (.slice AC s.costs.length cC) (.slice AU s.ups.length cU) (.slice AI s.infos.length cI)] w fun e w' => e = .returned (.int .i64 s.rootI) ∧ Below w.heap.size w w' := by
  obtain ⟨w0, hw0⟩ : ∃ W, W = w.alloc (.cells #[.int .i64 s.id, .slice AC s.costs.length cC, .slice AU s.ups.length cU, .slice AI s.infos.length cI] 26) := ⟨_, rfl⟩
  have I := Lib.hid (show InS w w0 s AC cC AU cU AI cI by rw [hw0]; exact .new hS)
  obtain ⟨y0, y1, y2, y3, hyl⟩ := I.out.cells
  have hlen : s.infos.length ≤ 8 := by obtain ⟨⟨l1, l2⟩, l3, l4⟩ := hF.len; omega
  replace hF := Lib.hid hF
  clear hS
  go_enter Try.func70, Try.ntmps70
  go_wp2_with fail
  rw [← hw0]
  clear hw0 y0 y1 y2 y3 hyl
  go_loopw [3, 9] (fun v3 i wr => ∃ k : Nat, k ≤ s.infos.length ∧ i = .int .i64 k ∧ v3 = .int .i64 (optI (s.best k)) ∧ InS w wr s AC cC AU cU AI cI) (fun _ i _ => s.infos.length - (intOf i).toNat)
  case atStart => exact ⟨0, by omega, rfl, rfl, I.out⟩
  case round =>
    clear I
    obtain ⟨k, hk, rfl, rfl, I⟩ := hrel
    by_cases hkn : k < s.infos.length
    · obtain ⟨bI, oI, rfl, hbI, q0, q1, q2, q3, q4, q5⟩ := SlN.at_ I.r.infos.sl (info_at (s := s) (p := k) hkn)
      obtain ⟨t, ht⟩ : ∃ t, s.best k = t := ⟨_, rfl⟩
      rw [ht]
      replace ht := Lib.hid ht
      obtain ⟨u, hu⟩ : ∃ u, s.best (k + 1) = u := ⟨_, rfl⟩
      replace hu := Lib.hid hu
      obtain ⟨x, hx⟩ : ∃ x, s.info k = x := ⟨_, rfl⟩
      rw [hx] at q0 q1 q2 q3 q4 q5
      replace hx := Lib.hid hx
      have hwr := I.x.lt
      replace I := Lib.hid I
      go_upto_region 5 with fail
      obtain ⟨w1, hw1⟩ : ∃ W, W = wr.alloc (.cells #[.bool x.has, .int .i64 x.v.r, .int .i64 x.v.c, .int .i64 x.v.b, .int .i64 x.v.p, .int .i64 x.age] 66) := ⟨_, rfl⟩
      rw [← hw1]
      have I1 := Lib.hid (show InS w w1 s AC cC AU cU (some ⟨bI, oI, none⟩) cI by rw [hw1]; exact I.out.below ((Below.refl _ _).alloc (Nat.le_refl _) _))
      have X1 := Lib.hid (show Bx w1 wr.heap.size 66 #[.bool x.has, .int .i64 x.v.r, .int .i64 x.v.c, .int .i64 x.v.b, .int .i64 x.v.p, .int .i64 x.age] by rw [hw1]; exact Bx.new _ _ _ rfl)
      clear hw1 q0 q1 q2 q3 q4 q5 hbI hwr I
      have K0 := cell_regrown (I1.out.x.c (i := 0) rfl)
      have K1 := cell_regrown (I1.out.x.c (i := 1) rfl)
      have K2 := cell_regrown (I1.out.x.c (i := 2) rfl)
      have K3 := cell_regrown (I1.out.x.c (i := 3) rfl)
      have J0 := cell_regrown (X1.out.c (i := 0) rfl)
      obtain ⟨hs, hhs⟩ : ∃ h, x.has = h := ⟨_, rfl⟩
      rw [hhs] at J0
      have hhk : (s.info k).has = hs := by rw [hx.out, hhs]
      replace hhk := Lib.hid hhk
      clear hhs
      cases hs with
      | false =>
        have hu2 := Lib.hid (show u = t by rw [← hu.out, best_no hhk.out, ht.out])
        refine wp_region_quiet_below (by kernel_rfl) (by kernel_rfl) ?_
        repeat (first | go_big_quiet_step (fail) | quiet_step (fail))
        refine wpQuiet_nil ?_
        intro _ hw'
        obtain ⟨⟨dq, osq⟩, hw''⟩ := hw'
        subst hw''
        have bq := below_regrown w1 dq osq
        clear K0 K1 K2 K3 J0
        generalize Go.Sort.grow (redrawn w1 dq) osq = W1 at *
        have I2 := Lib.hid (I1.out.below bq)
        go_wp2_with fail
        go_roundw
        case rel => exact ⟨k + 1, by omega, by go_num, by rw [hu.out, hu2.out], I2.out⟩
        case measure => simp [intOf]; omega
      | true =>
        cases t with
        | none =>
          have hu2 := Lib.hid (show u = some k by rw [← hu.out, best_first hhk.out ht.out])
          have ho : optI (none : Option Nat) = -1 := rfl
          refine wp_region_quiet_below (by kernel_rfl) (by kernel_rfl) ?_
          repeat (first | go_big_quiet_step (fail) | quiet_step (fail))
          refine wpQuiet_nil ?_
          intro _ hw'
          obtain ⟨⟨dq, osq⟩, hw''⟩ := hw'
          subst hw''
          have bq := below_regrown w1 dq osq
          clear K0 K1 K2 K3 J0
          generalize Go.Sort.grow (redrawn w1 dq) osq = W1 at *
          have I2 := Lib.hid (I1.out.below bq)
          go_wp2_with fail
          go_roundw
          case rel => exact ⟨k + 1, by omega, by go_num, by rw [hu.out, hu2.out]; rfl, I2.out⟩
          case measure => simp [intOf]; omega
        | some b =>
          have hbk := (best_lt ht.out).1
          have ho : optI (some b) = (b : Int) := rfl
          have hbi : b < s.infos.length := by omega
          have hb0 : ¬ (b : Int) < 0 := by omega
          obtain ⟨β, hβ⟩ : ∃ β, (s.way k).bet (s.way b) = β := ⟨_, rfl⟩
          have cC0 := fun (d : Nat) (os : Array Obj) => Calls.regrown_of (f_way (w := Go.Sort.grow (redrawn w1 d) os) hF.out (I1.out.r.below (below_regrown w1 d os)) hkn)
          have cC1 := fun (d : Nat) (os : Array Obj) => Calls.regrown_of (f_way (w := Go.Sort.grow (redrawn w1 d) os) hF.out (I1.out.r.below (below_regrown w1 d os)) hbi)
          have cC2 := fun (d : Nat) (os : Array Obj) => Calls.regrown_of (ref_bet (s.way k) (s.way b) β hβ (Go.Sort.grow (redrawn w1 d) os))
          have hyes := Lib.hid (show β = true → u = some k from fun h => by rw [← hu.out]; exact best_yes hhk.out ht.out (by rw [hβ, h]))
          have hno := Lib.hid (show β = false → u = some b from fun h => by rw [← hu.out]; exact best_keep ht.out (by rw [hβ, h]))
          clear hβ
          generalize s.way k = v1 at *
          generalize s.way b = v2 at *
          cases β
          all_goals
            refine wp_region_quiet_below (by kernel_rfl) (by kernel_rfl) ?_
            repeat (first | go_big_quiet_step (first | with_reducible exact cC0 _ _ | with_reducible exact cC1 _ _ | with_reducible exact cC2 _ _) | quiet_step (first | with_reducible exact cC0 _ _ | with_reducible exact cC1 _ _ | with_reducible exact cC2 _ _))
            refine wpQuiet_nil ?_
            intro _ hw'
            obtain ⟨⟨dq, osq⟩, hw''⟩ := hw'
            subst hw''
            have bq := below_regrown w1 dq osq
            clear K0 K1 K2 K3 J0 cC0 cC1 cC2
            generalize Go.Sort.grow (redrawn w1 dq) osq = W1 at *
            have I2 := Lib.hid (I1.out.below bq)
            go_wp2_with fail
            go_roundw
            case rel => exact ⟨k + 1, by omega, by go_num, by rw [hu.out]; first | ((rw [hyes.out rfl]) <;> rfl) | ((rw [hno.out rfl]) <;> rfl), I2.out⟩
            case measure => simp [intOf]; omega
    · have ek : k = s.infos.length := by omega
      subst ek
      obtain ⟨t, ht⟩ : ∃ t, s.best s.infos.length = t := ⟨_, rfl⟩
      rw [ht]
      obtain ⟨y0, y1, y2, y3, hyl⟩ := I.cells
      cases t with
      | none =>
        have ho : optI (none : Option Nat) = -1 := rfl
        have e := Lib.hid (show s.rootI = -1 by unfold S.rootI S.root; rw [ht]; rfl)
        replace I := Lib.hid I
        go_upto_region 8 with fail
        refine wp_region_quiet_below (by kernel_rfl) (by kernel_rfl) ?_
        repeat (first | go_big_quiet_step (fail) | quiet_step (fail))
        refine wpQuiet_nil ?_
        intro _ hw'
        obtain ⟨⟨dq, osq⟩, hw''⟩ := hw'
        subst hw''
        have bq := below_regrown wr dq osq
        generalize Go.Sort.grow (redrawn wr dq) osq = W1 at *
        go_wp2_with fail
        go_ret
        exact ⟨by rw [e.out]; rfl, bt I.out.b bq⟩
      | some b =>
        have hbk := (best_lt ht).1
        have ho : optI (some b) = (b : Int) := rfl
        have hb0 : (0 : Int) ≤ (b : Int) := by omega
        have hb1 : ¬ (b : Int) < 0 := by omega
        have cC1 := fun (d : Nat) (os : Array Obj) => Calls.regrown_of (f_way (w := Go.Sort.grow (redrawn wr d) os) hF.out (I.r.below (below_regrown wr d os)) hbk)
        have K0 := cell_regrown y0
        have K1 := cell_regrown y1
        have K2 := cell_regrown y2
        have K3 := cell_regrown y3
        have hri : s.rootI = if (s.way b).r < s.id then (b : Int) else -1 := by
          unfold S.rootI S.root; rw [ht]
          by_cases h : (s.way b).r < s.id <;> simp [h, optI]
        replace I := Lib.hid I
        replace ht := Lib.hid ht
        clear y0 y1 y2 y3
        go_upto_region 8 with fail
        generalize s.way b = v2 at *
        have hfd : ∀ w : World, (Instr.field 31 (.agg #[.int .i64 v2.r, .int .i64 v2.c, .int .i64 v2.b, .int .i64 v2.p]) 0).run Try.prog w = .ok (.int .i64 v2.r) w := fun w => field0 v2.r v2.c v2.b v2.p w
        by_cases hlt : v2.r < s.id
        · rw [if_pos hlt] at hri
          replace hri := Lib.hid hri
          refine wp_region_quiet_below (by kernel_rfl) (by kernel_rfl) ?_
          repeat (first | go_big_quiet_step (with_reducible exact cC1 _ _) | quiet_step (with_reducible exact cC1 _ _))
          refine wpQuiet_nil ?_
          intro _ hw'
          obtain ⟨⟨dq, osq⟩, hw''⟩ := hw'
          subst hw''
          have bq := below_regrown wr dq osq
          clear K0 K1 K2 K3 cC1
          generalize Go.Sort.grow (redrawn wr dq) osq = W1 at *
          go_wp2_with fail
          go_ret
          exact ⟨by rw [hri.out]; rfl, bt I.out.b bq⟩
        · rw [if_neg hlt] at hri
          replace hri := Lib.hid hri
          refine wp_region_quiet_below (by kernel_rfl) (by kernel_rfl) ?_
          repeat (first | go_big_quiet_step (with_reducible exact cC1 _ _) | quiet_step (with_reducible exact cC1 _ _))
          refine wpQuiet_nil ?_
          intro _ hw'
          obtain ⟨⟨dq, osq⟩, hw''⟩ := hw'
          subst hw''
          have bq := below_regrown wr dq osq
          clear K0 K1 K2 K3 cC1
          generalize Go.Sort.grow (redrawn wr dq) osq = W1 at *
          go_wp2_with fail
          go_ret
          exact ⟨by rw [hri.out]; rfl, bt I.out.b bq⟩
end Go.Proofs.Ytidoaccidmmalaa.RoleP
