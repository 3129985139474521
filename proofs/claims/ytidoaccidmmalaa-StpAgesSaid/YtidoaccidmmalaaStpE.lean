/-
  Contract of footwayref12: Right.
-/
import Derived.Test.YtidoaccidmmalaaStpB
import Derived.Test.YtidoaccidmmalaaStpA
namespace Go.Proofs.Ytidoaccidmmalaa.StpP
open Go.Proofs.Ytidoaccidmmalaa.MacP (arr_out Wrote wp_region_ends outM)
open Go.RowKit Go.Sort Go.Proofs.Ytidoaccidmmalaa.SliceP Go.Proofs.Ytidoaccidmmalaa.BoxP Go.Proofs.Ytidoaccidmmalaa.VecP Go.Proofs.Ytidoaccidmmalaa.RoleP
open Go.Proofs.Ytidoaccidmmalaa.IntP (RowI SlI OwnI)
open Go.Proofs.Ytidoaccidmmalaa.BoolP (RowB SlB OwnB)
open Go.Proofs.Ytidoaccidmmalaa.PortP (okS roleS tickS sv)
set_option linter.unusedVariables false
set_option maxRecDepth 100000
theorem r10_to {x : Int × Int} {d : Int} {b : Bool} (h : okS x.1 x.2 d = b) (w : World) : Calls Try.prog 40 #[sv x.1 x.2, .int .i64 d] w fun e w' => e = .returned (.bool b) ∧ Below w.heap.size w w' := by
  have := PortP.r_right x.1 x.2 d w
  rwa [h] at this
theorem r11_to {t : T} {AC : Option Addr} {cC : Nat} {AU : Option Addr} {cU : Nat} {AI : Option Addr} {cI : Nat} {w : World} {b : Bool} (h : t.self.ok = b) (hl : t.self.costs.length ≤ 1000 ∧ t.self.ups.length ≤ 1000 ∧ t.self.infos.length ≤ 1000) (hR : SelfR w t.self AC cC AU cU AI cI) : Calls Try.prog 39 #[selfV t.self.id (.slice AC t.self.costs.length cC) (.slice AU t.self.ups.length cU) (.slice AI t.self.infos.length cI)] w fun e w' => e = .returned (.bool b) ∧ Below w.heap.size w w' := by
  have := r_right hR hl
  rwa [h] at this
theorem pk_of {x1 m a : Int} {b1 ac z g pk : Bool} (h : (b1 && ((ac == !decide (x1 = 0)) && !decide (m ≤ a))) = pk) (hz : (x1 != 0) = z) (hg : decide (m ≤ a) = g) : (b1 && ((ac == z) && !g)) = pk := by
  rw [← h, ← hz, ← hg]
  have : (x1 != 0) = !decide (x1 = 0) := by simp [bne, BEq.beq]
  rw [this]
/-- The lengths that few leaves. -/
structure Len (t : T) : Prop where
  c : t.self.costs.length ≤ 1000
  u : t.self.ups.length ≤ 1000
  n : t.self.infos.length ≤ 1000
  s : t.states.length ≤ 1000
set_option maxHeartbeats 16000000 in
theorem rT_right {t : T} {AC : Option Addr} {cC : Nat} {AU : Option Addr} {cU : Nat} {AI : Option Addr} {cI : Nat} {AS : Option Addr} {cS : Nat} {w : World} (hl : Len t) (hR : TreeR w t AC cC AU cU AI cI AS cS) :
    Calls Try.prog 10 #[tv t AC cC AU cU AI cI AS cS] w fun e w' => e = .returned (.bool t.ok) ∧ Below w.heap.size w w' := by
  obtain ⟨w0, hw0⟩ : ∃ W, W = w.alloc (.cells #[.int .i64 t.self.id, .slice AC t.self.costs.length cC, .slice AU t.self.ups.length cU, .slice AI t.self.infos.length cI, .slice AS t.states.length cS, .int .i64 t.mx, .int .i64 t.dl] 29) := ⟨_, rfl⟩
  have I := Lib.hid (show InT w w0 t AC cC AU cU AI cI AS cS by rw [hw0]; exact .new hR)
  obtain ⟨ro, hro⟩ : ∃ b, t.self.ok = b := ⟨_, rfl⟩
  have hcall := Lib.hid (r11_to hro ⟨hl.c, hl.u, hl.n⟩ I.out.r.self)
  have hls := hl.s
  have hln := hl.n
  clear hR hl
  have B0 := I.out.b
  have z0 := I.out.x.lt
  go_enter Try.func10, Try.ntmps10
  go_wp2_with fail
  rw [← hw0]
  clear hw0
  go_at_call 39
  (with_reducible refine (hcall.out).mono ?_)
  rintro e w1 ⟨rfl, hb1⟩
  have I_w1 := Lib.hid (I.out.below hb1)
  have z0_w1 : w.heap.size < w1.heap.size := Nat.lt_of_lt_of_le z0 hb1.size
  have B_w1 := bt B0 hb1
  clear I z0 B0 hb1
  clear hcall
  cases ro with
  | false =>
    have e9 := Lib.hid (show t.ok = false by unfold T.ok T.headOk; rw [hro]; rfl)
    go_wp2_with fail
    go_ret
    exact ⟨by rw [e9.out]; rfl, B_w1⟩
  | true =>
    have hF := Lib.hid (Fit.mk hro)
    have hle := (head_iff.1 (ok_head hro)).2.2.2
    have hno : ∀ b : Bool, t.headOk = false → b = false → t.ok = b := fun b h hb => by rw [hb]; unfold T.ok; rw [h]; rfl
    replace hno := Lib.hid hno
    replace hle := Lib.hid hle
    have o_I_0 := I_w1.out.c (i := 0) rfl
    have o_I_1 := I_w1.out.c (i := 1) rfl
    have o_I_2 := I_w1.out.c (i := 2) rfl
    have o_I_3 := I_w1.out.c (i := 3) rfl
    have o_I_4 := I_w1.out.c (i := 4) rfl
    have o_I_5 := I_w1.out.c (i := 5) rfl
    have o_I_6 := I_w1.out.c (i := 6) rfl
    by_cases c63 : ((t.states.length : Int) != (t.self.costs.length : Int)) = true
    · have e9 := hno.out false (by unfold T.headOk; rw [hro]; (simp at c63 ⊢) <;> omega) rfl
      replace e9 := Lib.hid e9
      go_wp2_with fail
      go_ret
      exact ⟨by rw [e9.out]; rfl, B_w1⟩
    replace c63 : ((t.states.length : Int) != (t.self.costs.length : Int)) = false := by simpa using c63
    by_cases c8 : t.mx < 1
    · have e9 := hno.out false (by unfold T.headOk; rw [hro]; (simp at c8 ⊢) <;> omega) rfl
      replace e9 := Lib.hid e9
      go_wp2_with fail
      go_ret
      exact ⟨by rw [e9.out]; rfl, B_w1⟩
    by_cases c10 : 255 < t.mx
    · have e9 := hno.out false (by unfold T.headOk; rw [hro]; (simp at c10 ⊢) <;> omega) rfl
      replace e9 := Lib.hid e9
      go_wp2_with fail
      go_ret
      exact ⟨by rw [e9.out]; rfl, B_w1⟩
    have hsc : t.states.length = t.self.costs.length := by have h := c63; simp at h; omega
    have hhd := Lib.hid (show t.headOk = true from head_iffT.2 ⟨hro, hsc, by omega, by omega⟩)
    replace hsc := Lib.hid hsc
    replace hro := Lib.hid hro
    go_wp2_with fail
    clear c63 c8 c10
    clear o_I_0 o_I_1 o_I_2 o_I_3 o_I_4 o_I_5 o_I_6
    have I9 := I_w1
    go_loopw [32] (fun i wr => ∃ k : Nat, k ≤ t.states.length ∧ i = .int .i64 k ∧ InT w wr t AC cC AU cU AI cI AS cS ∧ (List.range k).all t.portOk = true) (fun i _ => t.states.length - (intOf i).toNat)
    case atStart => exact ⟨0, by omega, rfl, I9.out, rfl⟩
    case round =>
      clear I9 I_w1 B_w1 z0_w1
      obtain ⟨k, hk, rfl, I, hall⟩ := hrel
      by_cases hkn : k < t.states.length
      · obtain ⟨bS, oS, rfl, hbS, q0, q1⟩ := SlP.at_ I.r.sts.sl (st_at (t := t) (p := k) hkn)
        have hkc := Lib.hid (show k < t.self.costs.length by rw [← hsc.out]; exact hkn)
        have hki : k < t.self.infos.length := by rw [hle.out]; exact hkc.out
        have hki2 : (k : Int) < (t.self.infos.length : Int) := by omega
        have hkl : (k : Int) < (t.states.length : Int) := by omega
        have hnp : t.portOk k = false → t.ok = false := fun h => by
          unfold T.ok
          rw [Bool.and_eq_false_iff]
          refine .inr ?_
          rw [List.all_eq_false]
          exact ⟨k, List.mem_range.2 hkn, by rw [h]; simp⟩
        have hyp : t.portOk k = true → (List.range (k + 1)).all t.portOk = true := fun h => by rw [List.range_succ, List.all_append, hall]; simp [h]
        obtain ⟨pk, hpk⟩ : ∃ b, t.portOk k = b := ⟨_, rfl⟩
        rw [hpk] at hnp hyp
        unfold T.portOk T.act at hpk
        obtain ⟨x, hx⟩ : ∃ x, t.st k = x := ⟨_, rfl⟩
        rw [hx] at q0 q1 hpk
        obtain ⟨b1, hb1⟩ : ∃ b, okS x.1 x.2 t.dl = b := ⟨_, rfl⟩
        obtain ⟨rl, hrl⟩ : ∃ r, t.self.role k = r := ⟨_, rfl⟩
        obtain ⟨ac, hac⟩ : ∃ r, actI rl = r := ⟨_, rfl⟩
        rw [hb1, hrl, hac] at hpk
        have c10 := Lib.hid fun (W : World) => r10_to hb1 W
        have cRl := Lib.hid fun (W : World) (h : SelfR W t.self AC cC AU cU AI cI) => role_to (w := W) hF.out h hkc.out hrl
        have cAc := Lib.hid fun (W : World) => active_to hac W
        replace hb1 := Lib.hid hb1
        replace hrl := Lib.hid hrl
        replace hac := Lib.hid hac
        replace hx := Lib.hid hx
        replace hnp := Lib.hid hnp
        replace hyp := Lib.hid hyp
        replace hpk := Lib.hid hpk
        clear hall
        have z0 := I.x.lt
        replace I := Lib.hid I
        go_upto_region 6 with fail
        obtain ⟨w1, hw1⟩ : ∃ W, W = wr.alloc (.cells #[.int .i64 x.1, .int .i64 x.2] 80) := ⟨_, rfl⟩
        have bw1 : Below wr.heap.size wr w1 := by rw [hw1]; exact (Below.refl _ _).alloc (Nat.le_refl _) _
        have Xw1 : Bx w1 wr.heap.size 80 #[.int .i64 x.1, .int .i64 x.2] := by rw [hw1]; exact Bx.new _ _ _ rfl
        rw [← hw1]
        clear hw1
        have I_w1 := Lib.hid (I.out.below bw1)
        have N_w1 := Lib.hid (Xw1)
        have z0_w1 : w.heap.size < w1.heap.size := Nat.lt_of_lt_of_le z0 bw1.size
        clear I z0
        have z1_w1 : wr.heap.size < w1.heap.size := Xw1.lt
        clear Xw1
        clear q0 q1 hbS
        obtain ⟨bI, oI, rfl, hbI, p0, p1, p2, p3, p4, p5⟩ := SlN.at_ I_w1.out.r.self.infos.sl (info_at (s := t.self) (p := k) hki)
        obtain ⟨y, hy⟩ : ∃ y, t.self.info k = y := ⟨_, rfl⟩
        rw [hy] at p5
        replace hpk := hpk.out
        rw [hy] at hpk
        replace hpk := Lib.hid hpk
        replace hy := Lib.hid hy
        have J5 := cell_regrown p5
        clear p0 p1 p2 p3 p4 p5
        cases hz : (x.1 != 0)
        all_goals
          cases hg : decide (t.mx ≤ y.age)
          all_goals
            cases b1
            all_goals
              cases ac
              all_goals
                have K_I_0 := cell_regrown (I_w1.out.c (i := 0) rfl)
                have K_I_1 := cell_regrown (I_w1.out.c (i := 1) rfl)
                have K_I_2 := cell_regrown (I_w1.out.c (i := 2) rfl)
                have K_I_3 := cell_regrown (I_w1.out.c (i := 3) rfl)
                have K_I_4 := cell_regrown (I_w1.out.c (i := 4) rfl)
                have K_I_5 := cell_regrown (I_w1.out.c (i := 5) rfl)
                have K_I_6 := cell_regrown (I_w1.out.c (i := 6) rfl)
                have K_N_0 := cell_regrown (N_w1.out.c (i := 0) rfl)
                have K_N_1 := cell_regrown (N_w1.out.c (i := 1) rfl)
                have cC0 := fun (d : Nat) (os : Array Obj) => Calls.regrown_of (c10.out (Go.Sort.grow (redrawn w1 d) os))
                have cC1 := fun (d : Nat) (os : Array Obj) => Calls.regrown_of (cRl.out (Go.Sort.grow (redrawn w1 d) os) (I_w1.out.r.below (below_regrown w1 d os)).self)
                have cC2 := fun (d : Nat) (os : Array Obj) => Calls.regrown_of (cAc.out (Go.Sort.grow (redrawn w1 d) os))
                refine wp_region_quiet_below (by kernel_rfl) (by kernel_rfl) ?_
                repeat (first | go_big_quiet_step (first | with_reducible exact cC0 _ _ | with_reducible exact cC1 _ _ | with_reducible exact cC2 _ _) | quiet_step (first | with_reducible exact cC0 _ _ | with_reducible exact cC1 _ _ | with_reducible exact cC2 _ _))
                refine wpQuiet_nil ?_
                intro _ hw'
                obtain ⟨⟨dq, osq⟩, hw''⟩ := hw'
                subst hw''
                have hqw2 := below_regrown w1 dq osq
                clear K_I_0 K_I_1 K_I_2 K_I_3 K_I_4 K_I_5 K_I_6 K_N_0 K_N_1 cC0 cC1 cC2
                generalize Go.Sort.grow (redrawn w1 dq) osq = w2 at *
                have I_w2 := Lib.hid (I_w1.out.below hqw2)
                have N_w2 := Lib.hid (N_w1.out.below hqw2)
                have z0_w2 : w.heap.size < w2.heap.size := Nat.lt_of_lt_of_le z0_w1 hqw2.size
                have z1_w2 : wr.heap.size < w2.heap.size := Nat.lt_of_lt_of_le z1_w1 hqw2.size
                have B_w2 := bt bw1 hqw2
                clear I_w1 N_w1 z0_w1 z1_w1 bw1 hqw2
                clear J5
                go_wp2_with fail
                first
                  | (go_ret
                     exact ⟨by rw [hnp.out ((pk_of hpk.out hz hg).symm.trans rfl)]; rfl, I_w2.out.b⟩)
                  | (go_roundw
                     case rel => exact ⟨k + 1, by omega, by go_num, I_w2.out, hyp.out ((pk_of hpk.out hz hg).symm.trans rfl)⟩
                     case measure => simp [intOf]; omega)
      · have ek : k = t.states.length := by omega
        subst ek
        have e : t.ok = true := by unfold T.ok; rw [hhd.out, hall]; rfl
        replace e := Lib.hid e
        replace I := Lib.hid I
        clear hall
        go_wp2_with fail
        go_ret
        exact ⟨by rw [e.out]; rfl, I.out.b⟩
end Go.Proofs.Ytidoaccidmmalaa.StpP
