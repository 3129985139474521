/-
  Contracts of footwayref11: info, Right.
-/
import Derived.Test.YtidoaccidmmalaaRoleA
namespace Go.Proofs.Ytidoaccidmmalaa.RoleP
open Go.RowKit Go.Sort Go.Proofs.Ytidoaccidmmalaa.SliceP Go.Proofs.Ytidoaccidmmalaa.BoxP Go.Proofs.Ytidoaccidmmalaa.VecP
open Go.Proofs.Ytidoaccidmmalaa.IntP (RowI SlI OwnI)
open Go.Proofs.Ytidoaccidmmalaa.BoolP (RowB SlB)
set_option linter.unusedVariables false
set_option maxRecDepth 100000
theorem eql_info (x : N) (w : World) : (binOp .eql 66 x.val (nv false 0 0 0 0 0)).run Try.prog w = .ok (.bool x.zero) w := by
  obtain ⟨h, ⟨r, c, b, p⟩, a⟩ := x
  unfold N.zero
  show (binOp .eql 66 (nv h r c b p a) (nv false 0 0 0 0 0)).run Try.prog w = _
  cases h
  · by_cases h1 : r = 0
    · by_cases h2 : c = 0
      · by_cases h3 : b = 0
        · by_cases h4 : p = 0
          · by_cases h5 : a = 0 <;> (simp only [h1, h2, h3, h4, h5]; go_simp)
          · simp only [h1, h2, h3, h4]; go_simp
        · simp only [h1, h2, h3]; go_simp
      · simp only [h1, h2]; go_simp
    · simp only [h1]; go_simp
  · go_simp
set_option maxHeartbeats 8000000 in
theorem r_info (x : N) (up : Bool) (w : World) : Calls Try.prog 69 #[x.val, .bool up] w fun e w' => e = .returned (.bool (x.ok up)) ∧ Below w.heap.size w w' := by
  obtain ⟨h, v, a⟩ := x
  show Calls Try.prog 69 #[nv h v.r v.c v.b v.p a, .bool up] w _
  have hE : ∀ w, (binOp .eql 66 (nv h v.r v.c v.b v.p a) (nv false 0 0 0 0 0)).run Try.prog w = .ok (.bool (N.zero ⟨h, v, a⟩)) w := fun w => eql_info ⟨h, v, a⟩ w
  have B := Lib.hid ((Below.refl w.heap.size w).alloc (Nat.le_refl _) (.cells #[.bool h, .int .i64 v.r, .int .i64 v.c, .int .i64 v.b, .int .i64 v.p, .int .i64 a] 66))
  cases hu : (h && up) with
  | false =>
    have e : N.ok ⟨h, v, a⟩ up = N.zero ⟨h, v, a⟩ := by unfold N.ok; simp only; rw [hu]; rfl
    rw [e]
    clear e
    generalize N.zero ⟨h, v, a⟩ = z at *
    go_enter Try.func69, Try.ntmps69
    cases h with
    | false =>
      clear hu
      go_wp2_with fail
      go_ret
      exact ⟨rfl, B.out⟩
    | true =>
      obtain rfl : up = false := by simpa using hu
      clear hu
      go_wp2_with fail
      go_ret
      exact ⟨rfl, B.out⟩
  | true =>
    have e : N.ok ⟨h, v, a⟩ up = (v.ok && (decide (0 ≤ a) && decide (a ≤ 255))) := by unfold N.ok; simp only; rw [hu]; rfl
    rw [e]
    rw [Bool.and_eq_true] at hu
    obtain ⟨rfl, rfl⟩ := hu
    clear e hE
    obtain ⟨ok, hok⟩ : ∃ ok, v.ok = ok := ⟨_, rfl⟩
    have hr := Lib.hid (fun W => ref_right_is v.r v.c v.b v.p ok hok W)
    rw [hok]
    clear hok
    obtain ⟨w0, hw0⟩ : ∃ W, W = w.alloc (.cells #[.bool true, .int .i64 v.r, .int .i64 v.c, .int .i64 v.b, .int .i64 v.p, .int .i64 a] 66) := ⟨_, rfl⟩
    have X0 := Lib.hid (show Bx w0 w.heap.size 66 #[.bool true, .int .i64 v.r, .int .i64 v.c, .int .i64 v.b, .int .i64 v.p, .int .i64 a] by rw [hw0]; exact Bx.new _ _ _ rfl)
    rw [← hw0] at B
    have y0 := X0.out.c (i := 0) rfl
    have y1 := X0.out.c (i := 1) rfl
    have y2 := X0.out.c (i := 2) rfl
    have y3 := X0.out.c (i := 3) rfl
    have y4 := X0.out.c (i := 4) rfl
    have y5 := X0.out.c (i := 5) rfl
    have hyl := X0.out.lt
    go_enter Try.func69, Try.ntmps69
    go_wp2_with fail
    rw [← hw0]
    clear hw0
    go_at_call 46
    (with_reducible refine (hr.out _).mono ?_)
    rintro e w1 ⟨rfl, hb1⟩
    have B1 := Lib.hid (bt B.out hb1)
    have z5 := (X0.out.below hb1).c (i := 5) rfl
    have hzl := (X0.out.below hb1).lt
    clear y0 y1 y2 y3 y4 y5 hyl hb1 X0 B hr
    cases ok with
    | false =>
      go_wp2_with fail
      go_ret
      exact ⟨by rfl, B1.out⟩
    | true =>
      cases c1 : decide (0 ≤ a) <;> cases c2 : decide (a ≤ 255)
      all_goals
        go_wp2_with fail
        go_ret
        exact ⟨by rw [c1, c2]; rfl, B1.out⟩
/-- Where it lies, and its box. -/
structure InS (w W : World) (s : S) (AC : Option Addr) (cC : Nat) (AU : Option Addr) (cU : Nat) (AI : Option Addr) (cI : Nat) : Prop where
  b : Below w.heap.size w W
  x : Bx W w.heap.size SelfT #[.int .i64 s.id, .slice AC s.costs.length cC, .slice AU s.ups.length cU, .slice AI s.infos.length cI]
  r : SelfR W s AC cC AU cU AI cI
section
variable {s : S} {AC : Option Addr} {cC : Nat} {AU : Option Addr} {cU : Nat} {AI : Option Addr} {cI : Nat} {w W W' : World}
theorem InS.below (h : InS w W s AC cC AU cU AI cI) (hb : Below W.heap.size W W') : InS w W' s AC cC AU cU AI cI := ⟨bt h.b hb, h.x.below hb, h.r.below hb⟩
theorem InS.new (h : SelfR w s AC cC AU cU AI cI) : InS w (w.alloc (.cells #[.int .i64 s.id, .slice AC s.costs.length cC, .slice AU s.ups.length cU, .slice AI s.infos.length cI] 26)) s AC cC AU cU AI cI :=
  ⟨(Below.refl _ _).alloc (Nat.le_refl _) _, Bx.new _ _ _ rfl, h.below ((Below.refl _ _).alloc (Nat.le_refl _) _)⟩
theorem InS.cells (h : InS w W s AC cC AU cU AI cI) : W.cell? ⟨w.heap.size, 0, none⟩ = some (.int .i64 s.id) ∧ W.cell? ⟨w.heap.size, 1, none⟩ = some (.slice AC s.costs.length cC) ∧ W.cell? ⟨w.heap.size, 2, none⟩ = some (.slice AU s.ups.length cU) ∧ W.cell? ⟨w.heap.size, 3, none⟩ = some (.slice AI s.infos.length cI) ∧ w.heap.size < W.heap.size :=
  ⟨h.x.c (i := 0) rfl, h.x.c (i := 1) rfl, h.x.c (i := 2) rfl, h.x.c (i := 3) rfl, h.x.lt⟩
end
theorem info_b (x : N) (up b : Bool) (h : x.ok up = b) (w : World) : Calls Try.prog 69 #[nv x.has x.v.r x.v.c x.v.b x.v.p x.age, .bool up] w fun e w' => e = .returned (.bool b) ∧ Below w.heap.size w w' := by
  have := r_info x up w
  rwa [h] at this
set_option maxHeartbeats 16000000 in
theorem r_right {s : S} {AC : Option Addr} {cC : Nat} {AU : Option Addr} {cU : Nat} {AI : Option Addr} {cI : Nat} {w : World} (hS : SelfR w s AC cC AU cU AI cI) (hl : s.costs.length ≤ 1000 ∧ s.ups.length ≤ 1000 ∧ s.infos.length ≤ 1000) :
    Calls Try.prog 39 #[selfV s.id (.slice AC s.costs.length cC) (.slice AU s.ups.length cU) (.slice AI s.infos.length cI)] w fun e w' => e = .returned (.bool s.ok) ∧ Below w.heap.size w w' := by
  obtain ⟨w0, hw0⟩ : ∃ W, W = w.alloc (.cells #[.int .i64 s.id, .slice AC s.costs.length cC, .slice AU s.ups.length cU, .slice AI s.infos.length cI] 26) := ⟨_, rfl⟩
  have I := Lib.hid (show InS w w0 s AC cC AU cU AI cI by rw [hw0]; exact .new hS)
  obtain ⟨y0, y1, y2, y3, hyl⟩ := I.out.cells
  obtain ⟨hl1, hl2, hl3⟩ := hl
  clear hS
  cases hh : s.headOk with
  | false =>
    have e : s.ok = false := by unfold S.ok; rw [hh]; rfl
    rw [e]
    clear e
    unfold S.headOk at hh
    go_enter Try.func39, Try.ntmps39
    by_cases c1 : s.id < 0
    · skip
      replace hh := Lib.hid hh
      go_wp2_with fail
      go_ret
      exact ⟨rfl, by rw [hw0] at I; exact I.out.b⟩
    by_cases c2 : 65535 < s.id
    · skip
      replace hh := Lib.hid hh
      go_wp2_with fail
      go_ret
      exact ⟨rfl, by rw [hw0] at I; exact I.out.b⟩
    by_cases c3 : (s.costs.length : Int) < 1
    · skip
      replace hh := Lib.hid hh
      go_wp2_with fail
      go_ret
      exact ⟨rfl, by rw [hw0] at I; exact I.out.b⟩
    by_cases c4 : (8 : Int) < (s.costs.length : Int)
    · skip
      replace hh := Lib.hid hh
      go_wp2_with fail
      go_ret
      exact ⟨rfl, by rw [hw0] at I; exact I.out.b⟩
    cases c5 : ((s.ups.length : Int) != (s.costs.length : Int)) with
    | true =>
      replace hh := Lib.hid hh
      go_wp2_with fail
      go_ret
      exact ⟨rfl, by rw [hw0] at I; exact I.out.b⟩
    | false =>
    cases c6 : ((s.infos.length : Int) != (s.costs.length : Int)) with
    | true =>
      replace hh := Lib.hid hh
      go_wp2_with fail
      go_ret
      exact ⟨rfl, by rw [hw0] at I; exact I.out.b⟩
    | false =>
    exfalso
    simp at c5 c6
    simp at hh
    omega
  | true =>
    obtain ⟨⟨i1, i2⟩, ⟨n1, n2⟩, eu, ei⟩ := head_iff.1 hh
    have c1 : ¬ s.id < 0 := by omega
    have c2 : ¬ 65535 < s.id := by omega
    have c3 : ¬ (s.costs.length : Int) < 1 := by omega
    have c4 : ¬ (8 : Int) < (s.costs.length : Int) := by omega
    have c5 : ((s.ups.length : Int) != (s.costs.length : Int)) = false := by rw [eu]; simp
    have c6 : ((s.infos.length : Int) != (s.costs.length : Int)) = false := by rw [ei]; simp
    have hu := Lib.hid eu
    have hi := Lib.hid ei
    have hhd := Lib.hid hh
    clear eu ei hh i1 i2
    go_enter Try.func39, Try.ntmps39
    go_wp2_with fail
    rw [← hw0]
    clear hw0 y0 y2 y3 c1 c2 c3 c4 c5 c6
    go_loopw [41] (fun i wr => ∃ k : Nat, k ≤ s.costs.length ∧ i = .int .i64 k ∧ InS w wr s AC cC AU cU AI cI ∧ (List.range k).all s.portOk = true) (fun i _ => s.costs.length - (intOf i).toNat)
    case atStart => exact ⟨0, by omega, rfl, I.out, rfl⟩
    case round =>
      clear I y1 hyl
      obtain ⟨k, hk, rfl, I, hall⟩ := hrel
      by_cases hkn : k < s.costs.length
      · obtain ⟨bC, oC, rfl, hbC, qC⟩ := IntP.SlI.at_ I.r.costs.sl (cost_at hkn)
        obtain ⟨bU, oU, rfl, hbU, qU⟩ := BoolP.SlB.at_ I.r.ups.sl (up_at (s := s) (p := k) (by rw [hu.out]; exact hkn))
        obtain ⟨bI, oI, rfl, hbI, q0, q1, q2, q3, q4, q5⟩ := SlN.at_ I.r.infos.sl (info_at (s := s) (p := k) (by rw [hi.out]; exact hkn))
        have hkU : (k : Int) < (s.ups.length : Int) := by rw [hu.out]; omega
        have hkI : (k : Int) < (s.infos.length : Int) := by rw [hi.out]; omega
        have hno : s.portOk k = false → s.ok = false := fun h => by
          unfold S.ok
          rw [Bool.and_eq_false_iff]
          refine .inr ?_
          rw [List.all_eq_false]
          exact ⟨k, List.mem_range.2 hkn, by rw [h]; simp⟩
        have hyes : s.portOk k = true → (List.range (k + 1)).all s.portOk = true := fun h => by rw [List.range_succ, List.all_append, hall]; simp [h]
        obtain ⟨r, hr⟩ : ∃ r, s.portOk k = r := ⟨_, rfl⟩
        rw [hr] at hno hyes
        unfold S.portOk at hr
        generalize s.cost k = cst at *
        generalize s.up k = up at *
        generalize s.info k = x at *
        obtain ⟨b, hb⟩ : ∃ b, x.ok up = b := ⟨_, rfl⟩
        rw [hb] at hr
        have hin := Lib.hid (fun W => info_b x up b hb W)
        replace hno := Lib.hid hno
        replace hyes := Lib.hid hyes
        have K0 := cell_regrown (I.x.c (i := 0) rfl)
        have K1 := cell_regrown (I.x.c (i := 1) rfl)
        have K2 := cell_regrown (I.x.c (i := 2) rfl)
        have K3 := cell_regrown (I.x.c (i := 3) rfl)
        have KC := cell_regrown qC
        have KU := cell_regrown qU
        have J0 := cell_regrown q0
        have J1 := cell_regrown q1
        have J2 := cell_regrown q2
        have J3 := cell_regrown q3
        have J4 := cell_regrown q4
        have J5 := cell_regrown q5
        have cC0 := fun (d : Nat) (os : Array Obj) => Calls.regrown_of (hin.out (Go.Sort.grow (redrawn wr d) os))
        replace I := Lib.hid I
        replace hb := Lib.hid hb
        clear qC qU q0 q1 q2 q3 q4 q5 hbC hbU hbI hall hin
        go_wp2_with fail
        cases d1 : decide (cst < 1) <;> cases d2 : decide (1000 < cst) <;> cases b
        all_goals
          refine wp_region_quiet_below (by kernel_rfl) (by kernel_rfl) ?_
          repeat (first | go_big_quiet_step (with_reducible exact cC0 _ _) | quiet_step (with_reducible exact cC0 _ _))
          refine wpQuiet_nil ?_
          intro _ hw'
          obtain ⟨⟨dq, osq⟩, hw''⟩ := hw'
          subst hw''
          have bq := below_regrown wr dq osq
          clear K0 K1 K2 K3 KC KU J0 J1 J2 J3 J4 J5 cC0
          generalize Go.Sort.grow (redrawn wr dq) osq = W1 at *
          have I1 := Lib.hid (I.out.below bq)
          replace hr := Lib.hid hr
          go_wp2_with fail
          first
            | (go_ret
               exact ⟨by rw [hno.out (by have := hr.out; rw [← this]; (simp at d1 d2 ⊢) <;> omega)]; rfl, I1.out.b⟩)
            | (go_roundw
               case rel => exact ⟨k + 1, by omega, by go_num, I1.out, hyes.out (by have := hr.out; rw [← this]; (simp at d1 d2 ⊢) <;> omega)⟩
               case measure => simp [intOf]; omega)
      · have ek : k = s.costs.length := by omega
        subst ek
        have e : s.ok = true := by unfold S.ok; rw [hhd.out, hall]; rfl
        replace e := Lib.hid e
        replace I := Lib.hid I
        clear hall
        go_wp2_with fail
        go_ret
        exact ⟨by rw [e.out]; rfl, I.out.b⟩
end Go.Proofs.Ytidoaccidmmalaa.RoleP
