/-
  Contracts of stp's own small functions: isMost, isActive, isDelay, isConfig, older.
-/
import Derived.Test.YtidoaccidmmalaaStpF
import Derived.Test.YtidoaccidmmalaaPortPB
import Derived.Test.YtidoaccidmmalaaVecB
import Derived.Test.YtidoaccidmmalaaStpE
import Derived.Test.YtidoaccidmmalaaRowK
import Derived.Test.YtidoaccidmmalaaRoleIE
import Derived.Test.YtidoaccidmmalaaStpA
import Derived.Test.YtidoaccidmmalaaRegFree
namespace Go.Proofs.Ytidoaccidmmalaa.StpP
open Go.Proofs.Ytidoaccidmmalaa.MacP (arr_out Wrote wp_region_ends outM)
open Go.RowKit Go.Sort Go.Proofs.Ytidoaccidmmalaa.SliceP Go.Proofs.Ytidoaccidmmalaa.BoxP Go.Proofs.Ytidoaccidmmalaa.VecP Go.Proofs.Ytidoaccidmmalaa.RoleP
open Go.Proofs.Ytidoaccidmmalaa.IntP (RowI SlI OwnI)
open Go.Proofs.Ytidoaccidmmalaa.BoolP (RowB SlB OwnB)
open Go.Proofs.Ytidoaccidmmalaa.PortP (okS roleS tickS sv)
set_option linter.unusedVariables false
set_option maxRecDepth 100000
def mostB (m : Int) : Bool := decide (1 ≤ m) && decide (m ≤ 255)
set_option maxHeartbeats 8000000 in
theorem o_most (m : Int) (w : World) : Calls Try.prog 25 #[.int .i64 m] w fun e w' => e = .returned (.bool (mostB m)) ∧ Below w.heap.size w w' := by
  unfold mostB
  go_enter Try.func25, Try.ntmps25
  cases c1 : decide (1 ≤ m) <;> cases c2 : decide (m ≤ 255)
  all_goals
    go_wp2_with fail
    go_ret
    exact ⟨rfl, Below.refl _ _⟩
theorem most_to {m : Int} {b : Bool} (h : mostB m = b) (w : World) : Calls Try.prog 25 #[.int .i64 m] w fun e w' => e = .returned (.bool b) ∧ Below w.heap.size w w' := by
  have := o_most m w
  rwa [h] at this
set_option maxHeartbeats 8000000 in
theorem o_active (r : Int) (w : World) : Calls Try.prog 38 #[.int .i64 r] w fun e w' => e = .returned (.bool (actI r)) ∧ Below w.heap.size w w' := by
  unfold actI
  go_enter Try.func38, Try.ntmps38
  by_cases h0 : r = 0
  · subst h0
    go_wp2_with fail
    go_ret
    exact ⟨rfl, Below.refl _ _⟩
  · by_cases h1 : r = 1
    · subst h1
      go_wp2_with fail
      go_ret
      exact ⟨rfl, Below.refl _ _⟩
    · have e0 : (r == 0) = false := by simpa using h0
      have e1 : (r == 1) = false := by simpa using h1
      rw [show decide (r = 0) = false by simpa using h0, show decide (r = 1) = false by simpa using h1]
      replace h0 := Lib.hid h0
      replace h1 := Lib.hid h1
      go_wp2_with fail
      go_ret
      exact ⟨rfl, Below.refl _ _⟩
theorem oact_to {r : Int} {b : Bool} (h : actI r = b) (w : World) : Calls Try.prog 38 #[.int .i64 r] w fun e w' => e = .returned (.bool b) ∧ Below w.heap.size w w' := by
  have := o_active r w
  rwa [h] at this
set_option maxHeartbeats 8000000 in
theorem delay_to {d : Int} {b : Bool} (h : okS 0 0 d = b) (w : World) : Calls Try.prog 26 #[.int .i64 d] w fun e w' => e = .returned (.bool b) ∧ Below w.heap.size w w' := by
  have hc := Lib.hid fun W => PortP.p_right_to (w := W) h
  clear h
  go_enter Try.func26, Try.ntmps26
  go_wp2_with fail
  go_at_call 37
  (with_reducible refine (hc.out _).mono ?_)
  rintro e w1 ⟨rfl, hb1⟩
  replace hb1 := Lib.hid hb1
  go_wp2_with fail
  go_ret
  exact ⟨rfl, hb1.out⟩
set_option maxHeartbeats 8000000 in
theorem o_config (v : V) (a : Int) (w : World) : Calls Try.prog 31 #[cg v a] w fun e w' => e = .returned (.bool (cfgOk v a)) ∧ Below w.heap.size w w' := by
  unfold cfgOk
  obtain ⟨ok, hok⟩ : ∃ ok, v.ok = ok := ⟨_, rfl⟩
  have hr := Lib.hid (show ∀ W : World, Calls Try.prog 63 #[vv v.r v.c v.b v.p] W fun e w' => e = .returned (.bool ok) ∧ Below W.heap.size W w' from fun W => by
    have := right_any v.r v.c v.b v.p W
    rwa [show okV v.r v.c v.b v.p = ok from hok] at this)
  rw [hok]
  clear hok
  obtain ⟨w0, hw0⟩ : ∃ W, W = w.alloc (.cells #[.int .i64 v.r, .int .i64 v.c, .int .i64 v.b, .int .i64 v.p, .int .i64 a] 33) := ⟨_, rfl⟩
  have B0 := Lib.hid (show Below w.heap.size w w0 by rw [hw0]; exact (Below.refl _ _).alloc (Nat.le_refl _) _)
  have X0 := Lib.hid (show Bx w0 w.heap.size 33 #[.int .i64 v.r, .int .i64 v.c, .int .i64 v.b, .int .i64 v.p, .int .i64 a] by rw [hw0]; exact Bx.new _ _ _ rfl)
  go_enter Try.func31, Try.ntmps31
  go_wp2_with fail
  rw [← hw0]
  clear hw0
  go_at_call 63
  (with_reducible refine (hr.out _).mono ?_)
  rintro e w1 ⟨rfl, hb1⟩
  have B1 := Lib.hid (bt B0.out hb1)
  have z4 := (X0.out.below hb1).c (i := 4) rfl
  have hzl := (X0.out.below hb1).lt
  clear hb1 X0 B0 hr
  cases ok with
  | false =>
    go_wp2_with fail
    go_ret
    exact ⟨by rfl, B1.out⟩
  | true =>
    cases c1 : decide (0 ≤ a) <;> cases c2 : decide (a ≤ 255)
    all_goals
      go_wp2_with fail
      go_ret
      exact ⟨by rw [c1, c2]; rfl, B1.out⟩
theorem ocfg_to {v : V} {a : Int} {b : Bool} (h : cfgOk v a = b) (w : World) : Calls Try.prog 31 #[cg v a] w fun e w' => e = .returned (.bool b) ∧ Below w.heap.size w w' := by
  have := o_config v a w
  rwa [h] at this
/-- Six cells written. -/
theorem six_bx {w : World} {b : Nat} {T : TypeId} {u0 u1 u2 u3 u4 u5 : Value} (h : Bx w b T #[u0, u1, u2, u3, u4, u5]) (v0 v1 v2 v3 v4 v5 : Value) : Bx ((((((w.setCell ⟨b, 0, none⟩ (v0)).setCell ⟨b, 1, none⟩ (v1)).setCell ⟨b, 2, none⟩ (v2)).setCell ⟨b, 3, none⟩ (v3)).setCell ⟨b, 4, none⟩ (v4)).setCell ⟨b, 5, none⟩ (v5)) b T #[v0, v1, v2, v3, v4, v5] := by
  have := (((((h.set 0 v0).set 1 v1).set 2 v2).set 3 v3).set 4 v4).set 5 v5
  simpa using this
theorem six_bel {w0 w : World} {n b : Nat} (h : Below n w0 w) (hb : n ≤ b) (v0 v1 v2 v3 v4 v5 : Value) : Below n w0 ((((((w.setCell ⟨b, 0, none⟩ (v0)).setCell ⟨b, 1, none⟩ (v1)).setCell ⟨b, 2, none⟩ (v2)).setCell ⟨b, 3, none⟩ (v3)).setCell ⟨b, 4, none⟩ (v4)).setCell ⟨b, 5, none⟩ (v5)) := (((((h.setCell hb _).setCell hb _).setCell hb _).setCell hb _).setCell hb _).setCell hb _
set_option maxHeartbeats 8000000 in
theorem older_to {x y : N} {m : Int} (hx : 0 ≤ x.age ∧ x.age ≤ 255) (hz : x.has = false → x = N0) (hy : aged m x = y) (hm : 1 ≤ m) (w : World) : Calls Try.prog 50 #[x.val, .int .i64 m] w fun e w' => e = .returned y.val ∧ Below w.heap.size w w' := by
  obtain ⟨n1, hn1⟩ : ∃ n1, w.heap.size + 1 = n1 := ⟨_, rfl⟩
  obtain ⟨w0, hw0⟩ : ∃ W, W = (w.alloc (.cells #[.bool x.has, .int .i64 x.v.r, .int .i64 x.v.c, .int .i64 x.v.b, .int .i64 x.v.p, .int .i64 x.age] 66)).alloc (.cells #[.bool false, .int .i64 0, .int .i64 0, .int .i64 0, .int .i64 0, .int .i64 0] 66) := ⟨_, rfl⟩
  have b0 : Below w.heap.size w w0 := by rw [hw0]; exact ((Below.refl _ _).alloc (Nat.le_refl _) _).alloc (by simp) _
  have B := Lib.hid b0
  have X := Lib.hid (show Bx w0 w.heap.size 66 #[.bool x.has, .int .i64 x.v.r, .int .i64 x.v.c, .int .i64 x.v.b, .int .i64 x.v.p, .int .i64 x.age] by rw [hw0]; exact (Bx.new _ _ _ rfl).alloc _)
  have Y := Lib.hid (show Bx w0 n1 66 #[.bool false, .int .i64 0, .int .i64 0, .int .i64 0, .int .i64 0, .int .i64 0] by rw [hw0]; exact Bx.new _ _ _ (by rw [← hn1]; simp))
  have hnn := Lib.hid (show w.heap.size ≤ n1 by omega)
  have hne := Lib.hid (show n1 ≠ w.heap.size by omega)
  clear b0
  obtain ⟨ha1, ha2⟩ := hx
  unfold aged StpP.older at hy
  go_enter Try.func50, Try.ntmps50
  go_upto_region 1 with fail
  rw [← hw0]
  clear hw0 hn1
  have hyl := Y.out.lt
  have hxl := X.out.lt
  have y0 := Y.out.c (i := 0) rfl
  have g0 := Y.out.f 0
  have x0 := X.out.c (i := 0) rfl
  have f0 := X.out.f 0
  have y1 := Y.out.c (i := 1) rfl
  have g1 := Y.out.f 1
  have x1 := X.out.c (i := 1) rfl
  have f1 := X.out.f 1
  have y2 := Y.out.c (i := 2) rfl
  have g2 := Y.out.f 2
  have x2 := X.out.c (i := 2) rfl
  have f2 := X.out.f 2
  have y3 := Y.out.c (i := 3) rfl
  have g3 := Y.out.f 3
  have x3 := X.out.c (i := 3) rfl
  have f3 := X.out.f 3
  have y4 := Y.out.c (i := 4) rfl
  have g4 := Y.out.f 4
  have x4 := X.out.c (i := 4) rfl
  have f4 := X.out.f 4
  have y5 := Y.out.c (i := 5) rfl
  have g5 := Y.out.f 5
  have x5 := X.out.c (i := 5) rfl
  have f5 := X.out.f 5
  cases hh : x.has with
  | false =>
    rw [hz hh] at hy
    obtain rfl : N0 = y := by rw [← hy]; simp
    rw [hh] at x0
    clear hy hz
    go_wp2_with fail
    have z0 := (six_bx (Y.out) (.bool false) (.int .i64 0) (.int .i64 0) (.int .i64 0) (.int .i64 0) (.int .i64 0)).c (i := 0) rfl
    have z1 := (six_bx (Y.out) (.bool false) (.int .i64 0) (.int .i64 0) (.int .i64 0) (.int .i64 0) (.int .i64 0)).c (i := 1) rfl
    have z2 := (six_bx (Y.out) (.bool false) (.int .i64 0) (.int .i64 0) (.int .i64 0) (.int .i64 0) (.int .i64 0)).c (i := 2) rfl
    have z3 := (six_bx (Y.out) (.bool false) (.int .i64 0) (.int .i64 0) (.int .i64 0) (.int .i64 0) (.int .i64 0)).c (i := 3) rfl
    have z4 := (six_bx (Y.out) (.bool false) (.int .i64 0) (.int .i64 0) (.int .i64 0) (.int .i64 0) (.int .i64 0)).c (i := 4) rfl
    have z5 := (six_bx (Y.out) (.bool false) (.int .i64 0) (.int .i64 0) (.int .i64 0) (.int .i64 0) (.int .i64 0)).c (i := 5) rfl
    refine bodyPost_ret (v := nv false 0 0 0 0 0) (by simp [results, Try.results50, go_sem, z0, z1, z2, z3, z4, z5]) rfl ⟨rfl, six_bel B.out hnn.out _ _ _ _ _ _⟩
  | true =>
    rw [hh] at x0 hy
    simp only [if_true] at hy
    clear hz
    by_cases hg : m ≤ x.age + 1
    · rw [if_pos hg] at hy
      obtain rfl : N0 = y := hy
      have hg' : decide (m ≤ x.age + 1) = true := by simpa using hg
      go_wp2_with fail
      have z0 := (six_bx (Y.out) (.bool false) (.int .i64 0) (.int .i64 0) (.int .i64 0) (.int .i64 0) (.int .i64 0)).c (i := 0) rfl
      have z1 := (six_bx (Y.out) (.bool false) (.int .i64 0) (.int .i64 0) (.int .i64 0) (.int .i64 0) (.int .i64 0)).c (i := 1) rfl
      have z2 := (six_bx (Y.out) (.bool false) (.int .i64 0) (.int .i64 0) (.int .i64 0) (.int .i64 0) (.int .i64 0)).c (i := 2) rfl
      have z3 := (six_bx (Y.out) (.bool false) (.int .i64 0) (.int .i64 0) (.int .i64 0) (.int .i64 0) (.int .i64 0)).c (i := 3) rfl
      have z4 := (six_bx (Y.out) (.bool false) (.int .i64 0) (.int .i64 0) (.int .i64 0) (.int .i64 0) (.int .i64 0)).c (i := 4) rfl
      have z5 := (six_bx (Y.out) (.bool false) (.int .i64 0) (.int .i64 0) (.int .i64 0) (.int .i64 0) (.int .i64 0)).c (i := 5) rfl
      refine bodyPost_ret (v := nv false 0 0 0 0 0) (by simp [results, Try.results50, go_sem, z0, z1, z2, z3, z4, z5]) rfl ⟨rfl, six_bel B.out hnn.out _ _ _ _ _ _⟩
    · rw [if_neg hg] at hy
      obtain rfl : (⟨true, x.v, x.age + 1⟩ : N) = y := hy
      go_upto_region 4 with fail
      obtain ⟨w5, hw5⟩ : ∃ W, W = w0.setCell ⟨w.heap.size, 5, none⟩ (.int .i64 (x.age + 1)) := ⟨_, rfl⟩
      rw [← hw5]
      have X5 := Lib.hid (show Bx w5 w.heap.size 66 #[.bool true, .int .i64 x.v.r, .int .i64 x.v.c, .int .i64 x.v.b, .int .i64 x.v.p, .int .i64 (x.age + 1)] by rw [hw5]; exact (by simpa using X.out.set 5 _ : Bx _ _ _ #[.bool x.has, .int .i64 x.v.r, .int .i64 x.v.c, .int .i64 x.v.b, .int .i64 x.v.p, .int .i64 (x.age + 1)]) |> fun h => by rwa [hh] at h)
      have Z := Lib.hid (show Bx w5 n1 66 #[.bool false, .int .i64 0, .int .i64 0, .int .i64 0, .int .i64 0, .int .i64 0] by rw [hw5]; exact Y.out.other hne.out _ _)
      have BZ := Lib.hid (show Below w.heap.size w w5 by rw [hw5]; exact B.out.setCell (Nat.le_refl _) _)
      clear hw5 hyl hxl y0 x0 f0 g0 y1 x1 f1 g1 y2 x2 f2 g2 y3 x3 f3 g3 y4 x4 f4 g4 y5 x5 f5 g5
      have hyl := Z.out.lt
      have hxl := X5.out.lt
      have y0 := Z.out.c (i := 0) rfl
      have g0 := Z.out.f 0
      have x0 := X5.out.c (i := 0) rfl
      have f0 := X5.out.f 0
      have y1 := Z.out.c (i := 1) rfl
      have g1 := Z.out.f 1
      have x1 := X5.out.c (i := 1) rfl
      have f1 := X5.out.f 1
      have y2 := Z.out.c (i := 2) rfl
      have g2 := Z.out.f 2
      have x2 := X5.out.c (i := 2) rfl
      have f2 := X5.out.f 2
      have y3 := Z.out.c (i := 3) rfl
      have g3 := Z.out.f 3
      have x3 := X5.out.c (i := 3) rfl
      have f3 := X5.out.f 3
      have y4 := Z.out.c (i := 4) rfl
      have g4 := Z.out.f 4
      have x4 := X5.out.c (i := 4) rfl
      have f4 := X5.out.f 4
      have y5 := Z.out.c (i := 5) rfl
      have g5 := Z.out.f 5
      have x5 := X5.out.c (i := 5) rfl
      have f5 := X5.out.f 5
      go_wp2_with fail
      have z0 := (six_bx (Z.out) (.bool true) (.int .i64 x.v.r) (.int .i64 x.v.c) (.int .i64 x.v.b) (.int .i64 x.v.p) (.int .i64 (x.age + 1))).c (i := 0) rfl
      have z1 := (six_bx (Z.out) (.bool true) (.int .i64 x.v.r) (.int .i64 x.v.c) (.int .i64 x.v.b) (.int .i64 x.v.p) (.int .i64 (x.age + 1))).c (i := 1) rfl
      have z2 := (six_bx (Z.out) (.bool true) (.int .i64 x.v.r) (.int .i64 x.v.c) (.int .i64 x.v.b) (.int .i64 x.v.p) (.int .i64 (x.age + 1))).c (i := 2) rfl
      have z3 := (six_bx (Z.out) (.bool true) (.int .i64 x.v.r) (.int .i64 x.v.c) (.int .i64 x.v.b) (.int .i64 x.v.p) (.int .i64 (x.age + 1))).c (i := 3) rfl
      have z4 := (six_bx (Z.out) (.bool true) (.int .i64 x.v.r) (.int .i64 x.v.c) (.int .i64 x.v.b) (.int .i64 x.v.p) (.int .i64 (x.age + 1))).c (i := 4) rfl
      have z5 := (six_bx (Z.out) (.bool true) (.int .i64 x.v.r) (.int .i64 x.v.c) (.int .i64 x.v.b) (.int .i64 x.v.p) (.int .i64 (x.age + 1))).c (i := 5) rfl
      refine bodyPost_ret (v := nv true x.v.r x.v.c x.v.b x.v.p (x.age + 1)) (by simp [results, Try.results50, go_sem, z0, z1, z2, z3, z4, z5]) rfl ⟨rfl, six_bel BZ.out hnn.out _ _ _ _ _ _⟩
end Go.Proofs.Ytidoaccidmmalaa.StpP

/-
  stp.copied and stp.copyOf: a tree in blocks of one's own.
-/
namespace Go.Proofs.Ytidoaccidmmalaa.StpP
open Go.Proofs.Ytidoaccidmmalaa.MacP (arr_out Wrote wp_region_ends outM)
open Go.RowKit Go.Sort Go.Proofs.Ytidoaccidmmalaa.SliceP Go.Proofs.Ytidoaccidmmalaa.BoxP Go.Proofs.Ytidoaccidmmalaa.VecP Go.Proofs.Ytidoaccidmmalaa.RoleP
open Go.Proofs.Ytidoaccidmmalaa.IntP (RowI SlI OwnI)
open Go.Proofs.Ytidoaccidmmalaa.BoolP (RowB SlB OwnB)
open Go.Proofs.Ytidoaccidmmalaa.PortP (okS roleS tickS sv)
set_option linter.unusedVariables false
set_option maxRecDepth 100000
theorem copy_blk {P : Program} {g : Nat} {e : TypeId} {size : Nat} {xs ys : List (List Value)} {w : World} (dT sT ty : TypeId) (E : ElemT P dT e size) {A : Option Addr} {c n : Nat} (hx : xs.length = n) (hy : ys.length = n) (h : Blk w g e xs) (hw : Whole size xs) (hwy : Whole size ys) (hs : Sl w size A ys) (hnil : A = none → c = 0) (hcap : n ≤ c) :
    ∃ w', (Builtin.copy_ #[dT, sT] ty #[.slice (some ⟨g, 0, none⟩) n n, .slice A n c]).run P w = .ok (goInt n) w' ∧ Blk w' g e ys ∧ w.grownBy w' (some g) := by
  cases A with
  | none =>
    have hc := hnil rfl
    obtain rfl : n = 0 := by omega
    subst hc
    obtain rfl : xs = [] := List.eq_nil_of_length_eq_zero hx
    obtain rfl : ys = [] := List.eq_nil_of_length_eq_zero hy
    exact ⟨w, run_copy_blk_nil w dT sT ty E ⟨g, 0, none⟩ 0 0, h, World.grownBy.refl _ _⟩
  | some a =>
    have hsrc : ∀ j v, ys.flatten[j]? = some v → w.cell? (a.add j) = some v := by
      by_cases hl : ys = []
      · subst hl; intro j v hj; simp at hj
      · obtain ⟨b, o, e, _, _⟩ := hs hl
        obtain rfl := Option.some.inj e
        exact fun j v hj => Sl.flat_at hs hwy E.pos j v hj
    obtain ⟨w', h1, h2, h3, _⟩ := run_copy_blk (P := P) w dT sT ty E 0 n n a n c h hw hwy (by rw [hy]; exact (Nat.min_self n).symm) hsrc (by omega)
    rw [Nat.zero_mul, hy] at h1
    refine ⟨w', h1, ?_, h3⟩
    have e : xs.take 0 ++ ys ++ xs.drop (0 + ys.length) = ys := by rw [List.take_zero, List.nil_append, List.drop_of_length_le (by omega), List.append_nil]
    rwa [e] at h2
theorem zv_int : ∀ w, (zeroValue 3).run Try.prog w = .ok (.int .i64 0) w := fun _ => by kernel_rfl
set_option maxHeartbeats 4000000 in
theorem copied_int {A : Option Addr} {n c : Nat} {l : List Int} {w : World} (hr : RowI w A n c l) (hl : l.length ≤ 1000) : Calls Try.prog 60 #[.slice A n c] w fun e w' => ∃ g, e = .returned (.slice (some ⟨g, 0, none⟩) n n) ∧ w.heap.size ≤ g ∧ Blk w' g 3 (IntP.cI l) ∧ Below w.heap.size w w' := by
  have hn := hr.len
  obtain ⟨w1, hmk, hbk, hb1, hs1⟩ := run_make_blk (P := Try.prog) w 22 IntP.elI zv_int (size := 1) rfl n (by omega)
  have hwr : Whole 1 (List.replicate n ((.int .i64 0 : Value).cells.toList)) := Whole.replicate (by rfl) (by intro u hu; simp [Value.cells] at hu; (first | (rcases hu with rfl | rfl | rfl | rfl | rfl | rfl <;> rfl) | (rcases hu with rfl | rfl <;> rfl) | (subst hu; rfl))) n
  obtain ⟨w2, hcp, hbk2, hg2⟩ := copy_blk (P := Try.prog) 22 22 3 IntP.elI (xs := List.replicate n ((.int .i64 0 : Value).cells.toList)) (ys := IntP.cI l) (A := A) (c := c) (n := n) (by simp) (by first | (rw [IntP.cI_length]; exact hn.symm) | (rw [BoolP.cB_length]; exact hn.symm) | (rw [List.length_map]; exact hn.symm)) hbk hwr (IntP.whole l) (Sl.below hr.sl hb1) hr.nil hr.cap
  have B2 := Lib.hid (show Below w.heap.size w w2 from hb1.trans (grown_below hg2 (fun j hj => by cases hj; exact Nat.le_refl _) (by omega)))
  have K2 := Lib.hid hbk2
  clear hwr hbk hbk2 hg2 hb1 hs1 hr hl hn
  go_enter Try.func60, Try.ntmps60
  go_wp2_with fail
  go_ret
  exact ⟨_, rfl, Nat.le_refl _, K2.out, B2.out⟩
theorem zv_bool : ∀ w, (zeroValue 4).run Try.prog w = .ok (.bool false) w := fun _ => by kernel_rfl
set_option maxHeartbeats 4000000 in
theorem copied_bool {A : Option Addr} {n c : Nat} {l : List Bool} {w : World} (hr : RowB w A n c l) (hl : l.length ≤ 1000) : Calls Try.prog 65 #[.slice A n c] w fun e w' => ∃ g, e = .returned (.slice (some ⟨g, 0, none⟩) n n) ∧ w.heap.size ≤ g ∧ Blk w' g 4 (BoolP.cB l) ∧ Below w.heap.size w w' := by
  have hn := hr.len
  obtain ⟨w1, hmk, hbk, hb1, hs1⟩ := run_make_blk (P := Try.prog) w 23 BoolP.elB zv_bool (size := 1) rfl n (by omega)
  have hwr : Whole 1 (List.replicate n ((.bool false : Value).cells.toList)) := Whole.replicate (by rfl) (by intro u hu; simp [Value.cells] at hu; (first | (rcases hu with rfl | rfl | rfl | rfl | rfl | rfl <;> rfl) | (rcases hu with rfl | rfl <;> rfl) | (subst hu; rfl))) n
  obtain ⟨w2, hcp, hbk2, hg2⟩ := copy_blk (P := Try.prog) 23 23 3 BoolP.elB (xs := List.replicate n ((.bool false : Value).cells.toList)) (ys := BoolP.cB l) (A := A) (c := c) (n := n) (by simp) (by first | (rw [IntP.cI_length]; exact hn.symm) | (rw [BoolP.cB_length]; exact hn.symm) | (rw [List.length_map]; exact hn.symm)) hbk hwr (BoolP.whole l) (Sl.below hr.sl hb1) hr.nil hr.cap
  have B2 := Lib.hid (show Below w.heap.size w w2 from hb1.trans (grown_below hg2 (fun j hj => by cases hj; exact Nat.le_refl _) (by omega)))
  have K2 := Lib.hid hbk2
  clear hwr hbk hbk2 hg2 hb1 hs1 hr hl hn
  go_enter Try.func65, Try.ntmps65
  go_wp2_with fail
  go_ret
  exact ⟨_, rfl, Nat.le_refl _, K2.out, B2.out⟩
theorem zv_info : ∀ w, (zeroValue 66).run Try.prog w = .ok (nv false 0 0 0 0 0) w := fun _ => by kernel_rfl
set_option maxHeartbeats 4000000 in
theorem copied_info {A : Option Addr} {n c : Nat} {l : List N} {w : World} (hr : RowN w A n c l) (hl : l.length ≤ 1000) : Calls Try.prog 66 #[.slice A n c] w fun e w' => ∃ g, e = .returned (.slice (some ⟨g, 0, none⟩) n n) ∧ w.heap.size ≤ g ∧ Blk w' g 66 (l.map N.cells) ∧ Below w.heap.size w w' := by
  have hn := hr.len
  obtain ⟨w1, hmk, hbk, hb1, hs1⟩ := run_make_blk (P := Try.prog) w 24 elN zv_info (size := 6) rfl n (by omega)
  have hwr : Whole 6 (List.replicate n ((nv false 0 0 0 0 0 : Value).cells.toList)) := Whole.replicate (by rfl) (by intro u hu; simp [Value.cells] at hu; (first | (rcases hu with rfl | rfl | rfl | rfl | rfl | rfl <;> rfl) | (rcases hu with rfl | rfl <;> rfl) | (subst hu; rfl))) n
  obtain ⟨w2, hcp, hbk2, hg2⟩ := copy_blk (P := Try.prog) 24 24 3 elN (xs := List.replicate n ((nv false 0 0 0 0 0 : Value).cells.toList)) (ys := l.map N.cells) (A := A) (c := c) (n := n) (by simp) (by first | (rw [IntP.cI_length]; exact hn.symm) | (rw [BoolP.cB_length]; exact hn.symm) | (rw [List.length_map]; exact hn.symm)) hbk hwr (wholeN l) (Sl.below hr.sl hb1) hr.nil hr.cap
  have B2 := Lib.hid (show Below w.heap.size w w2 from hb1.trans (grown_below hg2 (fun j hj => by cases hj; exact Nat.le_refl _) (by omega)))
  have K2 := Lib.hid hbk2
  clear hwr hbk hbk2 hg2 hb1 hs1 hr hl hn
  go_enter Try.func66, Try.ntmps66
  go_wp2_with fail
  go_ret
  exact ⟨_, rfl, Nat.le_refl _, K2.out, B2.out⟩
theorem zv_state : ∀ w, (zeroValue 80).run Try.prog w = .ok (.agg #[.int .i64 0, .int .i64 0]) w := fun _ => by kernel_rfl
set_option maxHeartbeats 4000000 in
theorem copied_state {A : Option Addr} {n c : Nat} {l : List (Int × Int)} {w : World} (hr : RowP w A n c l) (hl : l.length ≤ 1000) : Calls Try.prog 67 #[.slice A n c] w fun e w' => ∃ g, e = .returned (.slice (some ⟨g, 0, none⟩) n n) ∧ w.heap.size ≤ g ∧ Blk w' g 80 (l.map sc) ∧ Below w.heap.size w w' := by
  have hn := hr.len
  obtain ⟨w1, hmk, hbk, hb1, hs1⟩ := run_make_blk (P := Try.prog) w 27 elP zv_state (size := 2) rfl n (by omega)
  have hwr : Whole 2 (List.replicate n ((.agg #[.int .i64 0, .int .i64 0] : Value).cells.toList)) := Whole.replicate (by rfl) (by intro u hu; simp [Value.cells] at hu; (first | (rcases hu with rfl | rfl | rfl | rfl | rfl | rfl <;> rfl) | (rcases hu with rfl | rfl <;> rfl) | (subst hu; rfl))) n
  obtain ⟨w2, hcp, hbk2, hg2⟩ := copy_blk (P := Try.prog) 27 27 3 elP (xs := List.replicate n ((.agg #[.int .i64 0, .int .i64 0] : Value).cells.toList)) (ys := l.map sc) (A := A) (c := c) (n := n) (by simp) (by first | (rw [IntP.cI_length]; exact hn.symm) | (rw [BoolP.cB_length]; exact hn.symm) | (rw [List.length_map]; exact hn.symm)) hbk hwr (wholeP l) (Sl.below hr.sl hb1) hr.nil hr.cap
  have B2 := Lib.hid (show Below w.heap.size w w2 from hb1.trans (grown_below hg2 (fun j hj => by cases hj; exact Nat.le_refl _) (by omega)))
  have K2 := Lib.hid hbk2
  clear hwr hbk hbk2 hg2 hb1 hs1 hr hl hn
  go_enter Try.func67, Try.ntmps67
  go_wp2_with fail
  go_ret
  exact ⟨_, rfl, Nat.le_refl _, K2.out, B2.out⟩
/-- A tree in blocks of its own, from B on. -/
structure Blks (w : World) (B : Nat) (t : T) (gC gU gI gS : Nat) : Prop where
  c : Blk w gC 3 (IntP.cI t.self.costs)
  u : Blk w gU 4 (BoolP.cB t.self.ups)
  n : Blk w gI 66 (t.self.infos.map N.cells)
  s : Blk w gS 80 (t.states.map sc)
  lc : B ≤ gC
  lu : B ≤ gU
  ln : B ≤ gI
  ls : B ≤ gS
abbrev tvO (t : T) (gC gU gI gS : Nat) : Value := tv t (some ⟨gC, 0, none⟩) t.self.costs.length (some ⟨gU, 0, none⟩) t.self.ups.length (some ⟨gI, 0, none⟩) t.self.infos.length (some ⟨gS, 0, none⟩) t.states.length
abbrev tcO (t : T) (gC gU gI gS : Nat) : Array Value := #[.int .i64 t.self.id, .slice (some ⟨gC, 0, none⟩) t.self.costs.length t.self.costs.length, .slice (some ⟨gU, 0, none⟩) t.self.ups.length t.self.ups.length, .slice (some ⟨gI, 0, none⟩) t.self.infos.length t.self.infos.length, .slice (some ⟨gS, 0, none⟩) t.states.length t.states.length, .int .i64 t.mx, .int .i64 t.dl]
theorem Bx.neq {w : World} {b c : Nat} {T1 T2 : TypeId} {u v : Array Value} (h : Bx w b T1 u) (k : Bx w c T2 v) (hn : T1 ≠ T2) : b ≠ c := fun e => by
  subst e
  have h1 : some (Obj.cells u T1 (0, 0)) = some (Obj.cells v T2 (0, 0)) := h.symm.trans k
  injection h1 with h2
  injection h2 with _ h3
  exact hn h3
section
variable {w w' : World} {B : Nat} {t : T} {gC gU gI gS : Nat}
theorem Blks.below (h : Blks w B t gC gU gI gS) (hb : Below w.heap.size w w') : Blks w' B t gC gU gI gS := ⟨h.c.below hb, h.u.below hb, h.n.below hb, h.s.below hb, h.lc, h.lu, h.ln, h.ls⟩
theorem Blks.base {B' : Nat} (h : Blks w B t gC gU gI gS) (hb : B' ≤ B) : Blks w B' t gC gU gI gS := ⟨h.c, h.u, h.n, h.s, Nat.le_trans hb h.lc, Nat.le_trans hb h.lu, Nat.le_trans hb h.ln, Nat.le_trans hb h.ls⟩
theorem Blks.tree (h : Blks w B t gC gU gI gS) : TreeR w t (some ⟨gC, 0, none⟩) t.self.costs.length (some ⟨gU, 0, none⟩) t.self.ups.length (some ⟨gI, 0, none⟩) t.self.infos.length (some ⟨gS, 0, none⟩) t.states.length :=
  ⟨⟨⟨rfl, h.c.sl (IntP.whole _), Nat.le_refl _, fun e => by cases e⟩, ⟨rfl, h.u.sl (BoolP.whole _), Nat.le_refl _, fun e => by cases e⟩, ⟨rfl, h.n.sl (wholeN _), Nat.le_refl _, fun e => by cases e⟩⟩, ⟨rfl, h.s.sl (wholeP _), Nat.le_refl _, fun e => by cases e⟩⟩
theorem Blks.off (h : Blks w B t gC gU gI gS) {b : Nat} (hb : b < B) : OffT b t (some ⟨gC, 0, none⟩) (some ⟨gU, 0, none⟩) (some ⟨gI, 0, none⟩) (some ⟨gS, 0, none⟩) :=
  ⟨fun _ a ha => by obtain rfl := Option.some.inj ha; have := h.lc; show gC ≠ b; omega, fun _ a ha => by obtain rfl := Option.some.inj ha; have := h.lu; show gU ≠ b; omega, fun _ a ha => by obtain rfl := Option.some.inj ha; have := h.ln; show gI ≠ b; omega, fun _ a ha => by obtain rfl := Option.some.inj ha; have := h.ls; show gS ≠ b; omega⟩
/-- Another block changes. -/
theorem Blks.grown (h : Blks w B t gC gU gI gS) {b : Nat} (hg : w.grownBy w' (some b)) (h1 : gC ≠ b) (h2 : gU ≠ b) (h3 : gI ≠ b) (h4 : gS ≠ b) : Blks w' B t gC gU gI gS :=
  ⟨h.c.grown hg (by simpa using h1), h.u.grown hg (by simpa using h2), h.n.grown hg (by simpa using h3), h.s.grown hg (by simpa using h4), h.lc, h.lu, h.ln, h.ls⟩
theorem Blks.box (h : Blks w B t gC gU gI gS) {b : Nat} {vals : Array Value} (hb : Bx w b 29 vals) (hg : w.grownBy w' (some b)) : Blks w' B t gC gU gI gS :=
  h.grown hg (Bx.neq (show Bx w gC _ _ from h.c) hb (by decide)) (Bx.neq (show Bx w gU _ _ from h.u) hb (by decide)) (Bx.neq (show Bx w gI _ _ from h.n) hb (by decide)) (Bx.neq (show Bx w gS _ _ from h.s) hb (by decide))
theorem set7_grown {b : Nat} {v0 v1 v2 v3 v4 v5 v6 : Value} : w.grownBy (set7 w b v0 v1 v2 v3 v4 v5 v6) (some b) := ((((((setCell_grown _ _ _ _).trans (setCell_grown _ _ _ _)).trans (setCell_grown _ _ _ _)).trans (setCell_grown _ _ _ _)).trans (setCell_grown _ _ _ _)).trans (setCell_grown _ _ _ _)).trans (setCell_grown _ _ _ _)
theorem Blks.set7 (h : Blks w B t gC gU gI gS) {b : Nat} {vals : Array Value} (hb : Bx w b 29 vals) {v0 v1 v2 v3 v4 v5 v6 : Value} : Blks (StpP.set7 w b v0 v1 v2 v3 v4 v5 v6) B t gC gU gI gS := h.box hb set7_grown
end
/-- A tree in blocks of its own is handed back. -/
def RetO (w : World) (t : T) (mk : Value → Value) (e : Ending) (w' : World) : Prop := ∃ gC gU gI gS, e = .returned (mk (tvO t gC gU gI gS)) ∧ Blks w' w.heap.size t gC gU gI gS ∧ Below w.heap.size w w'
set_option maxHeartbeats 16000000 in
theorem o_copy {t : T} {AC : Option Addr} {cC : Nat} {AU : Option Addr} {cU : Nat} {AI : Option Addr} {cI : Nat} {AS : Option Addr} {cS : Nat} {w : World} (hl : Len t) (hR : TreeR w t AC cC AU cU AI cI AS cS) : Calls Try.prog 33 #[tv t AC cC AU cU AI cI AS cS] w (RetO w t (fun v => v)) := by
  obtain ⟨w0, hw0⟩ : ∃ W, W = (w.alloc (.cells #[.int .i64 t.self.id, .slice AC t.self.costs.length cC, .slice AU t.self.ups.length cU, .slice AI t.self.infos.length cI, .slice AS t.states.length cS, .int .i64 t.mx, .int .i64 t.dl] 29)).alloc (.cells #[.int .i64 0, .slice none 0 0, .slice none 0 0, .slice none 0 0, .slice none 0 0, .int .i64 0, .int .i64 0] 29) := ⟨_, rfl⟩
  obtain ⟨n1, hn1⟩ : ∃ n1, w.heap.size + 1 = n1 := ⟨_, rfl⟩
  have I := Lib.hid (show Bx w0 w.heap.size 29 #[.int .i64 t.self.id, .slice AC t.self.costs.length cC, .slice AU t.self.ups.length cU, .slice AI t.self.infos.length cI, .slice AS t.states.length cS, .int .i64 t.mx, .int .i64 t.dl] by rw [hw0]; exact (Bx.new _ _ _ rfl).alloc _)
  have X := Lib.hid (show Bx w0 n1 29 #[.int .i64 0, .slice none 0 0, .slice none 0 0, .slice none 0 0, .slice none 0 0, .int .i64 0, .int .i64 0] by rw [hw0]; exact Bx.new _ _ _ (by rw [← hn1]; simp))
  have b0 : Below w.heap.size w w0 := by rw [hw0]; exact ((Below.refl _ _).alloc (Nat.le_refl _) _).alloc (by simp) _
  have R := Lib.hid (show TreeR w0 t AC cC AU cU AI cI AS cS from hR.below b0)
  have hlt := Lib.hid (show w.heap.size < w0.heap.size by have := I.out.lt; omega)
  have hlt1 := Lib.hid (show n1 < w0.heap.size from X.out.lt)
  have hne := Lib.hid (show n1 ≠ w.heap.size by omega)
  have hge := Lib.hid (show w.heap.size ≤ n1 by omega)
  have RO := Lib.hid (show OffT w.heap.size t AC AU AI AS from hR.off (Nat.le_refl _))
  clear hR
  obtain ⟨lc, lu, ln, ls⟩ := hl
  go_enter Try.func33, Try.ntmps33
  have zz := I.out.lt
  have o0 := I.out.c (i := 0) rfl
  have o1 := I.out.c (i := 1) rfl
  have o2 := I.out.c (i := 2) rfl
  have o3 := I.out.c (i := 3) rfl
  have o4 := I.out.c (i := 4) rfl
  have o5 := I.out.c (i := 5) rfl
  have o6 := I.out.c (i := 6) rfl
  go_upto_region 1 with fail
  rw [← hw0]
  clear hw0 hn1
  go_wp2_with fail
  clear zz o0 o1 o2 o3 o4 o5 o6
  go_at_call 60
  (with_reducible refine (copied_int R.out.self.costs lc).mono ?_)
  rintro e a0 ⟨gC, rfl, lgC, kgC, hb0⟩
  obtain ⟨c0, hc0⟩ : ∃ W, W = a0.setCell ⟨w.heap.size, 1, none⟩ (.slice (some ⟨gC, 0, none⟩) t.self.costs.length t.self.costs.length) := ⟨_, rfl⟩
  have gr0 : a0.grownBy c0 (some w.heap.size) := by rw [hc0]; exact setCell_grown _ _ _ _
  have Ia0 := I.out.below hb0
  have I0 := Lib.hid (show Bx c0 w.heap.size 29 #[.int .i64 t.self.id, .slice (some ⟨gC, 0, none⟩) t.self.costs.length t.self.costs.length, .slice AU t.self.ups.length cU, .slice AI t.self.infos.length cI, .slice AS t.states.length cS, .int .i64 t.mx, .int .i64 t.dl] by rw [hc0]; exact Ia0.set 1 _)
  have X0 := Lib.hid (show Bx c0 n1 29 #[.int .i64 0, .slice none 0 0, .slice none 0 0, .slice none 0 0, .slice none 0 0, .int .i64 0, .int .i64 0] from (X.out.below hb0).grown gr0 (by simpa using hne.out))
  have ge0 := Lib.hid (show w0.heap.size ≤ c0.heap.size by have := hb0.size; have := gr0.size; omega)
  have s0 : Sets w.heap.size w.heap.size a0 c0 := by rw [hc0]; exact Sets.one Sets.refl
  have R0 := Lib.hid (show TreeR c0 t AC cC AU cU AI cI AS cS from s0.tree (R.out.below hb0) (RO.out) (RO.out))
  have B0 := Lib.hid (show Below w.heap.size w c0 by rw [hc0]; exact (bt b0 hb0).setCell (Nat.le_refl _) _)
  have KgC0 := Lib.hid (show Blk c0 gC 3 (IntP.cI t.self.costs) from kgC.grown gr0 (by have := hlt.out; simp; omega))
  replace lgC := Lib.hid (show w0.heap.size ≤ gC from by omega)
  have zz := Ia0.lt
  have o0 := Ia0.c (i := 0) rfl
  have o1 := Ia0.c (i := 1) rfl
  have o2 := Ia0.c (i := 2) rfl
  have o3 := Ia0.c (i := 3) rfl
  have o4 := Ia0.c (i := 4) rfl
  have o5 := Ia0.c (i := 5) rfl
  have o6 := Ia0.c (i := 6) rfl
  have f1 := Ia0.f 1
  clear kgC Ia0 gr0 s0 hb0 I X R b0
  go_upto_region 2 with fail
  rw [← hc0]
  clear zz o0 o1 o2 o3 o4 o5 o6 f1 hc0
  have zz := I0.out.lt
  have o0 := I0.out.c (i := 0) rfl
  have o1 := I0.out.c (i := 1) rfl
  have o2 := I0.out.c (i := 2) rfl
  have o3 := I0.out.c (i := 3) rfl
  have o4 := I0.out.c (i := 4) rfl
  have o5 := I0.out.c (i := 5) rfl
  have o6 := I0.out.c (i := 6) rfl
  go_wp2_with fail
  clear zz o0 o1 o2 o3 o4 o5 o6
  go_at_call 65
  (with_reducible refine (copied_bool R0.out.self.ups lu).mono ?_)
  rintro e a1 ⟨gU, rfl, lgU, kgU, hb1⟩
  obtain ⟨c1, hc1⟩ : ∃ W, W = a1.setCell ⟨w.heap.size, 2, none⟩ (.slice (some ⟨gU, 0, none⟩) t.self.ups.length t.self.ups.length) := ⟨_, rfl⟩
  have gr1 : a1.grownBy c1 (some w.heap.size) := by rw [hc1]; exact setCell_grown _ _ _ _
  have Ia1 := I0.out.below hb1
  have I1 := Lib.hid (show Bx c1 w.heap.size 29 #[.int .i64 t.self.id, .slice (some ⟨gC, 0, none⟩) t.self.costs.length t.self.costs.length, .slice (some ⟨gU, 0, none⟩) t.self.ups.length t.self.ups.length, .slice AI t.self.infos.length cI, .slice AS t.states.length cS, .int .i64 t.mx, .int .i64 t.dl] by rw [hc1]; exact Ia1.set 2 _)
  have X1 := Lib.hid (show Bx c1 n1 29 #[.int .i64 0, .slice none 0 0, .slice none 0 0, .slice none 0 0, .slice none 0 0, .int .i64 0, .int .i64 0] from (X0.out.below hb1).grown gr1 (by simpa using hne.out))
  have ge1 := Lib.hid (show w0.heap.size ≤ c1.heap.size by have := hb1.size; have := gr1.size; have := ge0.out; omega)
  have s1 : Sets w.heap.size w.heap.size a1 c1 := by rw [hc1]; exact Sets.one Sets.refl
  have R1 := Lib.hid (show TreeR c1 t AC cC AU cU AI cI AS cS from s1.tree (R0.out.below hb1) (RO.out) (RO.out))
  have B1 := Lib.hid (show Below w.heap.size w c1 by rw [hc1]; exact (bt B0.out hb1).setCell (Nat.le_refl _) _)
  have KgC1 := Lib.hid (show Blk c1 gC 3 (IntP.cI t.self.costs) from (KgC0.out.below hb1).grown gr1 (by have := lgC.out; have := hlt.out; simp; omega))
  have KgU1 := Lib.hid (show Blk c1 gU 4 (BoolP.cB t.self.ups) from kgU.grown gr1 (by have := hlt.out; have := ge0.out; simp; omega))
  replace lgU := Lib.hid (show w0.heap.size ≤ gU from by have := ge0.out; omega)
  have zz := Ia1.lt
  have o0 := Ia1.c (i := 0) rfl
  have o1 := Ia1.c (i := 1) rfl
  have o2 := Ia1.c (i := 2) rfl
  have o3 := Ia1.c (i := 3) rfl
  have o4 := Ia1.c (i := 4) rfl
  have o5 := Ia1.c (i := 5) rfl
  have o6 := Ia1.c (i := 6) rfl
  have f2 := Ia1.f 2
  clear kgU Ia1 gr1 s1 hb1 I0 X0 R0 B0 ge0 KgC0
  go_upto_region 3 with fail
  rw [← hc1]
  clear zz o0 o1 o2 o3 o4 o5 o6 f2 hc1
  have zz := I1.out.lt
  have o0 := I1.out.c (i := 0) rfl
  have o1 := I1.out.c (i := 1) rfl
  have o2 := I1.out.c (i := 2) rfl
  have o3 := I1.out.c (i := 3) rfl
  have o4 := I1.out.c (i := 4) rfl
  have o5 := I1.out.c (i := 5) rfl
  have o6 := I1.out.c (i := 6) rfl
  go_wp2_with fail
  clear zz o0 o1 o2 o3 o4 o5 o6
  go_at_call 66
  (with_reducible refine (copied_info R1.out.self.infos ln).mono ?_)
  rintro e a2 ⟨gI, rfl, lgI, kgI, hb2⟩
  obtain ⟨c2, hc2⟩ : ∃ W, W = a2.setCell ⟨w.heap.size, 3, none⟩ (.slice (some ⟨gI, 0, none⟩) t.self.infos.length t.self.infos.length) := ⟨_, rfl⟩
  have gr2 : a2.grownBy c2 (some w.heap.size) := by rw [hc2]; exact setCell_grown _ _ _ _
  have Ia2 := I1.out.below hb2
  have I2 := Lib.hid (show Bx c2 w.heap.size 29 #[.int .i64 t.self.id, .slice (some ⟨gC, 0, none⟩) t.self.costs.length t.self.costs.length, .slice (some ⟨gU, 0, none⟩) t.self.ups.length t.self.ups.length, .slice (some ⟨gI, 0, none⟩) t.self.infos.length t.self.infos.length, .slice AS t.states.length cS, .int .i64 t.mx, .int .i64 t.dl] by rw [hc2]; exact Ia2.set 3 _)
  have X2 := Lib.hid (show Bx c2 n1 29 #[.int .i64 0, .slice none 0 0, .slice none 0 0, .slice none 0 0, .slice none 0 0, .int .i64 0, .int .i64 0] from (X1.out.below hb2).grown gr2 (by simpa using hne.out))
  have ge2 := Lib.hid (show w0.heap.size ≤ c2.heap.size by have := hb2.size; have := gr2.size; have := ge1.out; omega)
  have s2 : Sets w.heap.size w.heap.size a2 c2 := by rw [hc2]; exact Sets.one Sets.refl
  have R2 := Lib.hid (show TreeR c2 t AC cC AU cU AI cI AS cS from s2.tree (R1.out.below hb2) (RO.out) (RO.out))
  have B2 := Lib.hid (show Below w.heap.size w c2 by rw [hc2]; exact (bt B1.out hb2).setCell (Nat.le_refl _) _)
  have KgC2 := Lib.hid (show Blk c2 gC 3 (IntP.cI t.self.costs) from (KgC1.out.below hb2).grown gr2 (by have := lgC.out; have := hlt.out; simp; omega))
  have KgU2 := Lib.hid (show Blk c2 gU 4 (BoolP.cB t.self.ups) from (KgU1.out.below hb2).grown gr2 (by have := lgU.out; have := hlt.out; simp; omega))
  have KgI2 := Lib.hid (show Blk c2 gI 66 (t.self.infos.map N.cells) from kgI.grown gr2 (by have := hlt.out; have := ge1.out; simp; omega))
  replace lgI := Lib.hid (show w0.heap.size ≤ gI from by have := ge1.out; omega)
  have zz := Ia2.lt
  have o0 := Ia2.c (i := 0) rfl
  have o1 := Ia2.c (i := 1) rfl
  have o2 := Ia2.c (i := 2) rfl
  have o3 := Ia2.c (i := 3) rfl
  have o4 := Ia2.c (i := 4) rfl
  have o5 := Ia2.c (i := 5) rfl
  have o6 := Ia2.c (i := 6) rfl
  have f3 := Ia2.f 3
  clear kgI Ia2 gr2 s2 hb2 I1 X1 R1 B1 ge1 KgC1 KgU1
  go_upto_region 4 with fail
  rw [← hc2]
  clear zz o0 o1 o2 o3 o4 o5 o6 f3 hc2
  have zz := I2.out.lt
  have o0 := I2.out.c (i := 0) rfl
  have o1 := I2.out.c (i := 1) rfl
  have o2 := I2.out.c (i := 2) rfl
  have o3 := I2.out.c (i := 3) rfl
  have o4 := I2.out.c (i := 4) rfl
  have o5 := I2.out.c (i := 5) rfl
  have o6 := I2.out.c (i := 6) rfl
  go_wp2_with fail
  clear zz o0 o1 o2 o3 o4 o5 o6
  go_at_call 67
  (with_reducible refine (copied_state R2.out.sts ls).mono ?_)
  rintro e a3 ⟨gS, rfl, lgS, kgS, hb3⟩
  obtain ⟨c3, hc3⟩ : ∃ W, W = a3.setCell ⟨w.heap.size, 4, none⟩ (.slice (some ⟨gS, 0, none⟩) t.states.length t.states.length) := ⟨_, rfl⟩
  have gr3 : a3.grownBy c3 (some w.heap.size) := by rw [hc3]; exact setCell_grown _ _ _ _
  have Ia3 := I2.out.below hb3
  have I3 := Lib.hid (show Bx c3 w.heap.size 29 #[.int .i64 t.self.id, .slice (some ⟨gC, 0, none⟩) t.self.costs.length t.self.costs.length, .slice (some ⟨gU, 0, none⟩) t.self.ups.length t.self.ups.length, .slice (some ⟨gI, 0, none⟩) t.self.infos.length t.self.infos.length, .slice (some ⟨gS, 0, none⟩) t.states.length t.states.length, .int .i64 t.mx, .int .i64 t.dl] by rw [hc3]; exact Ia3.set 4 _)
  have X3 := Lib.hid (show Bx c3 n1 29 #[.int .i64 0, .slice none 0 0, .slice none 0 0, .slice none 0 0, .slice none 0 0, .int .i64 0, .int .i64 0] from (X2.out.below hb3).grown gr3 (by simpa using hne.out))
  have ge3 := Lib.hid (show w0.heap.size ≤ c3.heap.size by have := hb3.size; have := gr3.size; have := ge2.out; omega)
  have s3 : Sets w.heap.size w.heap.size a3 c3 := by rw [hc3]; exact Sets.one Sets.refl
  have R3 := Lib.hid (show TreeR c3 t AC cC AU cU AI cI AS cS from s3.tree (R2.out.below hb3) (RO.out) (RO.out))
  have B3 := Lib.hid (show Below w.heap.size w c3 by rw [hc3]; exact (bt B2.out hb3).setCell (Nat.le_refl _) _)
  have KgC3 := Lib.hid (show Blk c3 gC 3 (IntP.cI t.self.costs) from (KgC2.out.below hb3).grown gr3 (by have := lgC.out; have := hlt.out; simp; omega))
  have KgU3 := Lib.hid (show Blk c3 gU 4 (BoolP.cB t.self.ups) from (KgU2.out.below hb3).grown gr3 (by have := lgU.out; have := hlt.out; simp; omega))
  have KgI3 := Lib.hid (show Blk c3 gI 66 (t.self.infos.map N.cells) from (KgI2.out.below hb3).grown gr3 (by have := lgI.out; have := hlt.out; simp; omega))
  have KgS3 := Lib.hid (show Blk c3 gS 80 (t.states.map sc) from kgS.grown gr3 (by have := hlt.out; have := ge2.out; simp; omega))
  replace lgS := Lib.hid (show w0.heap.size ≤ gS from by have := ge2.out; omega)
  have zz := Ia3.lt
  have o0 := Ia3.c (i := 0) rfl
  have o1 := Ia3.c (i := 1) rfl
  have o2 := Ia3.c (i := 2) rfl
  have o3 := Ia3.c (i := 3) rfl
  have o4 := Ia3.c (i := 4) rfl
  have o5 := Ia3.c (i := 5) rfl
  have o6 := Ia3.c (i := 6) rfl
  have f4 := Ia3.f 4
  clear kgS Ia3 gr3 s3 hb3 I2 X2 R2 B2 ge2 KgC2 KgU2 KgI2
  go_upto_region 5 with fail
  rw [← hc3]
  clear zz o0 o1 o2 o3 o4 o5 o6 f4 hc3
  have zz := I3.out.lt
  have o0 := I3.out.c (i := 0) rfl
  have o1 := I3.out.c (i := 1) rfl
  have o2 := I3.out.c (i := 2) rfl
  have o3 := I3.out.c (i := 3) rfl
  have o4 := I3.out.c (i := 4) rfl
  have o5 := I3.out.c (i := 5) rfl
  have o6 := I3.out.c (i := 6) rfl
  have zx := X3.out.lt
  have x0 := X3.out.c (i := 0) rfl
  have g0 := X3.out.f 0
  have x1 := X3.out.c (i := 1) rfl
  have g1 := X3.out.f 1
  have x2 := X3.out.c (i := 2) rfl
  have g2 := X3.out.f 2
  have x3 := X3.out.c (i := 3) rfl
  have g3 := X3.out.f 3
  have x4 := X3.out.c (i := 4) rfl
  have g4 := X3.out.f 4
  have x5 := X3.out.c (i := 5) rfl
  have g5 := X3.out.f 5
  have x6 := X3.out.c (i := 6) rfl
  have g6 := X3.out.f 6
  go_wp2_with fail
  refine bodyPost_ret (v := tvO t gC gU gI gS) (by simp [results, Try.results33, go_sem, x0, x1, x2, x3, x4, x5, x6]) rfl ⟨gC, gU, gI, gS, rfl, ?_, set7_bel B3.out hge.out⟩
  exact Blks.set7 ⟨KgC3.out, KgU3.out, KgI3.out, KgS3.out, by have := lgC.out; have := hlt.out; omega, by have := lgU.out; have := hlt.out; omega, by have := lgI.out; have := hlt.out; omega, by have := lgS.out; have := hlt.out; omega⟩ X3.out
end Go.Proofs.Ytidoaccidmmalaa.StpP

/-
  Contract of role.Roles; the row that it hands back is a block of its own.
-/
namespace Go.Proofs.Ytidoaccidmmalaa.RoleP
open Go.Proofs.Ytidoaccidmmalaa.MacP (arr_out Wrote)
open Go.RowKit Go.Sort Go.Proofs.Ytidoaccidmmalaa.SliceP Go.Proofs.Ytidoaccidmmalaa.BoxP Go.Proofs.Ytidoaccidmmalaa.VecP
open Go.Proofs.Ytidoaccidmmalaa.IntP (RowI SlI OwnI)
open Go.Proofs.Ytidoaccidmmalaa.BoolP (RowB SlB)
set_option linter.unusedVariables false
set_option maxRecDepth 100000
/-- The roles of the first k; zeros behind them. -/
def S.part (s : S) (k : Nat) : List Int := s.roles.take k ++ List.replicate (s.costs.length - k) 0
def S.row (s : S) (k : Nat) : Array Value := ((s.part k).map (Value.int .i64)).toArray
theorem mk_ints (n : Nat) (h : n ≤ 8) (w : World) : (Instr.makeSlice 22 (.int .i64 n) (.int .i64 n)).run Try.prog w = .ok (.slice (some ⟨w.heap.size, 0, none⟩) n n) (w.alloc (.cells (Array.replicate n (.int .i64 0)) 3)) := by
  obtain rfl | rfl | rfl | rfl | rfl | rfl | rfl | rfl | rfl : n = 0 ∨ n = 1 ∨ n = 2 ∨ n = 3 ∨ n = 4 ∨ n = 5 ∨ n = 6 ∨ n = 7 ∨ n = 8 := by omega
  all_goals kernel_rfl
theorem roles_len' (s : S) : s.roles.length = s.costs.length := by unfold S.roles; simp
theorem part_len (s : S) {k : Nat} (h : k ≤ s.costs.length) : (s.part k).length = s.costs.length := by unfold S.part; rw [List.length_append, List.length_take, List.length_replicate, roles_len']; omega
theorem row_zero (s : S) : s.row 0 = Array.replicate s.costs.length (.int .i64 0) := by unfold S.row S.part; simp
theorem part_all (s : S) : s.part s.costs.length = s.roles := by unfold S.part; rw [Nat.sub_self, List.take_of_length_le (by rw [roles_len']; omega)]; simp
theorem role_at (s : S) {k : Nat} (h : k < s.costs.length) : s.roles[k]? = some (s.role k) := by unfold S.roles; rw [List.getElem?_map, List.getElem?_range h]; rfl
theorem part_step (s : S) {k : Nat} (h : k < s.costs.length) : (s.part k).set k (s.role k) = s.part (k + 1) := by
  have hl : (s.roles.take k).length = k := by rw [List.length_take, roles_len']; omega
  unfold S.part
  rw [List.set_append_right _ _ (by omega), hl, Nat.sub_self]
  obtain ⟨m, hm⟩ : ∃ m, s.costs.length - k = m + 1 := ⟨s.costs.length - k - 1, by omega⟩
  rw [hm, List.replicate_succ, List.set_cons_zero, show s.costs.length - (k + 1) = m by omega, List.take_add_one, role_at s h]
  simp
theorem row_step (s : S) {k : Nat} (h : k < s.costs.length) : (s.row k).setIfInBounds k (.int .i64 (s.role k)) = s.row (k + 1) := by
  unfold S.row
  rw [← part_step s h]
  simp [List.map_set]
theorem row_get (s : S) {k i : Nat} (hk : k ≤ s.costs.length) (h : i < s.costs.length) : ∃ v, (s.row k)[i]? = some v := by
  unfold S.row
  exact ⟨_, Array.getElem?_eq_getElem (by simp [part_len s hk]; exact h)⟩
set_option maxHeartbeats 8000000 in
theorem o_roles_no {s : S} {AC : Option Addr} {cC : Nat} {AU : Option Addr} {cU : Nat} {AI : Option Addr} {cI : Nat} {w : World} (hok : s.ok = false) (hl : s.costs.length ≤ 1000 ∧ s.ups.length ≤ 1000 ∧ s.infos.length ≤ 1000) (hS : SelfR w s AC cC AU cU AI cI) : Calls Try.prog 36 #[selfV s.id (.slice AC s.costs.length cC) (.slice AU s.ups.length cU) (.slice AI s.infos.length cI)] w fun e w' => ∃ A c, e = .returned (.tuple #[.slice A 0 c, .int .i64 1]) ∧ Below w.heap.size w w' := by
  obtain ⟨w0, hw0⟩ : ∃ W, W = w.alloc (.cells #[.int .i64 s.id, .slice AC s.costs.length cC, .slice AU s.ups.length cU, .slice AI s.infos.length cI] 26) := ⟨_, rfl⟩
  have I := Lib.hid (show InS w w0 s AC cC AU cU AI cI by rw [hw0]; exact .new hS)
  have hz0 := I.out.x.lt
  have B0 := I.out.b
  clear hS
  replace hok := Lib.hid hok
  replace hl := Lib.hid hl
  go_enter Try.func36, Try.ntmps36
  go_wp2_with fail
  rw [← hw0]
  clear hw0
  go_at_call 28
  (with_reducible refine (o_right_to hok.out hl.out I.out.r).mono ?_)
  rintro e w1 ⟨rfl, hb1⟩
  have I_w1 := Lib.hid (I.out.below hb1)
  have z0_w1 : w.heap.size < w1.heap.size := Nat.lt_of_lt_of_le hz0 hb1.size
  have B_w1 := bt B0 hb1
  clear I hz0 B0 hb1
  have B9 := Lib.hid B_w1
  go_wp2_with fail
  go_ret2
  exact ⟨none, 0, by rfl, B9.out⟩
set_option maxHeartbeats 16000000 in
theorem o_roles_blk {s : S} {AC : Option Addr} {cC : Nat} {AU : Option Addr} {cU : Nat} {AI : Option Addr} {cI : Nat} {w : World} (hok : s.ok = true) (hl : s.costs.length ≤ 1000 ∧ s.ups.length ≤ 1000 ∧ s.infos.length ≤ 1000) (hS : SelfR w s AC cC AU cU AI cI) : Calls Try.prog 36 #[selfV s.id (.slice AC s.costs.length cC) (.slice AU s.ups.length cU) (.slice AI s.infos.length cI)] w fun e w' => ∃ g, e = .returned (.tuple #[.slice (some ⟨g, 0, none⟩) s.costs.length s.costs.length, .int .i64 0]) ∧ w.heap.size ≤ g ∧ Blk w' g 3 (IntP.cI s.roles) ∧ Below w.heap.size w w' := by
  have hF := Lib.hid (Fit.mk hok)
  obtain ⟨w0, hw0⟩ : ∃ W, W = w.alloc (.cells #[.int .i64 s.id, .slice AC s.costs.length cC, .slice AU s.ups.length cU, .slice AI s.infos.length cI] 26) := ⟨_, rfl⟩
  have I := Lib.hid (show InS w w0 s AC cC AU cU AI cI by rw [hw0]; exact .new hS)
  have hz0 := I.out.x.lt
  have B0 := I.out.b
  have hm1 : s.costs.length ≤ 8 := hF.out.len.1.2
  obtain ⟨R, hR⟩ : ∃ v, wayV s s.root = v := ⟨_, rfl⟩
  replace hR := Lib.hid hR
  clear hS
  replace hok := Lib.hid hok
  replace hl := Lib.hid hl
  go_enter Try.func36, Try.ntmps36
  go_wp2_with fail
  rw [← hw0]
  clear hw0
  go_at_call 28
  (with_reducible refine (o_right_to hok.out hl.out I.out.r).mono ?_)
  rintro e w1 ⟨rfl, hb1⟩
  have I_w1 := Lib.hid (I.out.below hb1)
  have z0_w1 : w.heap.size < w1.heap.size := Nat.lt_of_lt_of_le hz0 hb1.size
  have B_w1 := bt B0 hb1
  clear I hz0 B0 hb1
  have o_I_0 := I_w1.out.c (i := 0) rfl
  have o_I_1 := I_w1.out.c (i := 1) rfl
  have o_I_2 := I_w1.out.c (i := 2) rfl
  have o_I_3 := I_w1.out.c (i := 3) rfl
  go_wp2_with fail
  clear o_I_0 o_I_1 o_I_2 o_I_3
  go_at_call 58
  (with_reducible refine (o_rw_to hF.out I_w1.out.r hR.out).mono ?_)
  rintro e w2 ⟨rfl, hb2⟩
  have I_w2 := Lib.hid (I_w1.out.below hb2)
  have z0_w2 : w.heap.size < w2.heap.size := Nat.lt_of_lt_of_le z0_w1 hb2.size
  have B_w2 := bt B_w1 hb2
  clear I_w1 z0_w1 B_w1 hb2
  have o_I_0 := I_w2.out.c (i := 0) rfl
  have o_I_1 := I_w2.out.c (i := 1) rfl
  have o_I_2 := I_w2.out.c (i := 2) rfl
  have o_I_3 := I_w2.out.c (i := 3) rfl
  have hmk := mk_ints s.costs.length hm1
  go_upto_region 5 with fail
  clear o_I_0 o_I_1 o_I_2 o_I_3
  rw [← row_zero s]
  obtain ⟨w9, hw9⟩ : ∃ W, W = w2.alloc (.cells (s.row 0) 3) := ⟨_, rfl⟩
  have b9 : Below w2.heap.size w2 w9 := by rw [hw9]; exact (Below.refl _ _).alloc (Nat.le_refl _) _
  have X9 := Lib.hid (show Bx w9 w2.heap.size 3 (s.row 0) by rw [hw9]; exact Bx.new _ _ _ rfl)
  rw [← hw9]
  clear hw9 hmk
  go_wp2_with fail
  go_loopw [18] (fun i wr => ∃ k : Nat, k ≤ s.costs.length ∧ i = .int .i64 k ∧ Below w2.heap.size w2 wr ∧ Bx wr w2.heap.size 3 (s.row k)) (fun i _ => s.costs.length - (intOf i).toNat)
  case atStart => exact ⟨0, by omega, rfl, b9, X9.out⟩
  case round =>
    clear X9 b9
    obtain ⟨k, hk, rfl, hb, X⟩ := hrel
    by_cases hkn : k < s.costs.length
    · have hkl : (k : Int) < (s.costs.length : Int) := by omega
      have I := Lib.hid (I_w2.out.below hb)
      have z0 := I.out.x.lt
      have hkn' := Lib.hid hkn
      have hb' := Lib.hid hb
      have X' := Lib.hid X
      clear hb X hkn
      obtain ⟨rl, hrl⟩ : ∃ v, s.role k = v := ⟨_, rfl⟩
      replace hrl := Lib.hid hrl
      have o0 := I.out.c (i := 0) rfl
      have o1 := I.out.c (i := 1) rfl
      have o2 := I.out.c (i := 2) rfl
      have o3 := I.out.c (i := 3) rfl
      go_wp2_with fail
      clear o0 o1 o2 o3 z0
      go_at_call 68
      (with_reducible refine (o_role_to hF.out I.out.r hkn'.out hR.out hrl.out).mono ?_)
      rintro e w10 ⟨rfl, hb10⟩
      have hb2 := Lib.hid (bt hb'.out hb10)
      have X2 := Lib.hid (X'.out.below hb10)
      clear hb10 X' hb' I
      obtain ⟨v0, hv0⟩ := row_get s hk hkn'.out
      have g0 := X2.out.c hv0
      have f0 := X2.out.f k
      have hxl := X2.out.lt
      replace hv0 := Lib.hid hv0
      go_wp2_with fail
      go_roundw
      case rel => exact ⟨k + 1, by have := hkn'.out; omega, by go_num, hb2.out.setCell (Nat.le_refl _) _, by have h := row_step s hkn'.out; rw [hrl.out] at h; have := X2.out.set k (.int .i64 rl); rwa [h] at this⟩
      case measure => simp [intOf]; omega
    · have ek : k = s.costs.length := by omega
      subst ek
      replace X := Lib.hid X
      replace hb := Lib.hid (show Below w.heap.size w wr from bt B_w2 hb)
      go_wp2_with fail
      go_ret2
      refine ⟨w2.heap.size, rfl, by have := z0_w2; omega, ?_, hb.out⟩
      have hx := X.out
      unfold S.row at hx
      rw [part_all] at hx
      unfold Blk flatA
      rw [IntP.cI_flat]
      exact hx
end Go.Proofs.Ytidoaccidmmalaa.RoleP

/-
  Contract of stp.settle, over a tree in blocks of one's own.
-/
namespace Go.Proofs.Ytidoaccidmmalaa.StpP
open Go.Proofs.Ytidoaccidmmalaa.MacP (arr_out Wrote wp_region_ends outM)
open Go.RowKit Go.Sort Go.Proofs.Ytidoaccidmmalaa.SliceP Go.Proofs.Ytidoaccidmmalaa.BoxP Go.Proofs.Ytidoaccidmmalaa.VecP Go.Proofs.Ytidoaccidmmalaa.RoleP
open Go.Proofs.Ytidoaccidmmalaa.IntP (RowI SlI OwnI)
open Go.Proofs.Ytidoaccidmmalaa.BoolP (RowB SlB OwnB)
open Go.Proofs.Ytidoaccidmmalaa.PortP (okS roleS tickS sv)
set_option linter.unusedVariables false
set_option maxRecDepth 100000
section
variable {w w' : World} {g : Nat} {e : TypeId} {xs : List (List Value)}
theorem Blk.set1 (h : Blk w g e xs) (hw : Whole 1 xs) {i : Nat} (hi : i < xs.length) (a : Value) : Blk (w.setCell ⟨g, i, none⟩ a) g e (xs.set i [a]) := by
  have := heap_setCell_same w g i _ e a h
  unfold Blk
  have hf := flat_set hw hi (cs := [a]) rfl
  rw [Nat.mul_one] at hf
  rw [this, ← hf]; rfl
theorem Blk.set2 (h : Blk w g e xs) (hw : Whole 2 xs) {i : Nat} (hi : i < xs.length) (a b : Value) : Blk ((w.setCell ⟨g, i * 2, none⟩ a).setCell ⟨g, i * 2 + 1, none⟩ b) g e (xs.set i [a, b]) := by
  have := heap_setCell_same _ g (i * 2 + 1) _ e b (heap_setCell_same w g (i * 2) _ e a h)
  unfold Blk
  rw [this, ← flat_set hw hi rfl]; rfl
theorem Blk.set6 (h : Blk w g e xs) (hw : Whole 6 xs) {i : Nat} (hi : i < xs.length) (a b c d f k : Value) :
    Blk ((((((w.setCell ⟨g, i * 6, none⟩ a).setCell ⟨g, i * 6 + 1, none⟩ b).setCell ⟨g, i * 6 + 2, none⟩ c).setCell ⟨g, i * 6 + 3, none⟩ d).setCell ⟨g, i * 6 + 4, none⟩ f).setCell ⟨g, i * 6 + 5, none⟩ k) g e (xs.set i [a, b, c, d, f, k]) := by
  have := heap_setCell_same _ g (i * 6 + 5) _ e k (heap_setCell_same _ g (i * 6 + 4) _ e f (heap_setCell_same _ g (i * 6 + 3) _ e d (heap_setCell_same _ g (i * 6 + 2) _ e c (heap_setCell_same _ g (i * 6 + 1) _ e b (heap_setCell_same w g (i * 6) _ e a h)))))
  unfold Blk
  rw [this, ← flat_set hw hi rfl]; rfl
theorem set2_grown (w : World) (g i j : Nat) (a b : Value) : w.grownBy ((w.setCell ⟨g, i, none⟩ a).setCell ⟨g, j, none⟩ b) (some g) := (setCell_grown _ _ _ _).trans (setCell_grown _ _ _ _)
theorem set6_grown (w : World) (g i0 i1 i2 i3 i4 i5 : Nat) (a b c d f k : Value) : w.grownBy ((((((w.setCell ⟨g, i0, none⟩ a).setCell ⟨g, i1, none⟩ b).setCell ⟨g, i2, none⟩ c).setCell ⟨g, i3, none⟩ d).setCell ⟨g, i4, none⟩ f).setCell ⟨g, i5, none⟩ k) (some g) :=
  (((((setCell_grown _ _ _ _).trans (setCell_grown _ _ _ _)).trans (setCell_grown _ _ _ _)).trans (setCell_grown _ _ _ _)).trans (setCell_grown _ _ _ _)).trans (setCell_grown _ _ _ _)
end
/-- A tree in blocks of its own, and its box. -/
structure OwnT (w : World) (B bO : Nat) (t : T) (gC gU gI gS : Nat) : Prop where
  x : Bx w bO 29 (tcO t gC gU gI gS)
  b : Blks w B t gC gU gI gS
  le : B ≤ bO
section
variable {w w' W : World} {B bO : Nat} {t t' : T} {gC gU gI gS : Nat} {k : Nat}
theorem OwnT.below (h : OwnT w B bO t gC gU gI gS) (hb : Below w.heap.size w w') : OwnT w' B bO t gC gU gI gS := ⟨h.x.below hb, h.b.below hb, h.le⟩
theorem OwnT.c (h : OwnT w B bO t gC gU gI gS) {i : Nat} {v : Value} (hv : (tcO t gC gU gI gS)[i]? = some v) : w.cell? ⟨bO, i, none⟩ = some v := h.x.c hv
theorem OwnT.f (h : OwnT w B bO t gC gU gI gS) (i : Nat) : w.frozen? ⟨bO, i, none⟩ = false := h.x.f i
theorem OwnT.st (h : OwnT w B bO t gC gU gI gS) {x : Int × Int} (hk : t.states[k]? = some x) : w.cell? ⟨gS, k * 2, none⟩ = some (.int .i64 x.1) ∧ w.cell? ⟨gS, k * 2 + 1, none⟩ = some (.int .i64 x.2) ∧ gS < w.heap.size :=
  have hs : (t.states.map sc)[k]? = some (sc x) := by rw [List.getElem?_map, hk]; rfl
  ⟨by simpa using h.b.s.cell (wholeP _) hs (j := 0) rfl, h.b.s.cell (wholeP _) hs (j := 1) rfl, h.b.s.lt⟩
theorem OwnT.ni (h : OwnT w B bO t gC gU gI gS) {x : N} (hk : t.self.infos[k]? = some x) : w.cell? ⟨gI, k * 6, none⟩ = some (.bool x.has) ∧ w.cell? ⟨gI, k * 6 + 1, none⟩ = some (.int .i64 x.v.r) ∧ w.cell? ⟨gI, k * 6 + 2, none⟩ = some (.int .i64 x.v.c) ∧ w.cell? ⟨gI, k * 6 + 3, none⟩ = some (.int .i64 x.v.b) ∧ w.cell? ⟨gI, k * 6 + 4, none⟩ = some (.int .i64 x.v.p) ∧ w.cell? ⟨gI, k * 6 + 5, none⟩ = some (.int .i64 x.age) ∧ gI < w.heap.size :=
  have hs : (t.self.infos.map N.cells)[k]? = some x.cells := by rw [List.getElem?_map, hk]; rfl
  ⟨by simpa using h.b.n.cell (wholeN _) hs (j := 0) rfl, h.b.n.cell (wholeN _) hs (j := 1) rfl, h.b.n.cell (wholeN _) hs (j := 2) rfl, h.b.n.cell (wholeN _) hs (j := 3) rfl, h.b.n.cell (wholeN _) hs (j := 4) rfl, h.b.n.cell (wholeN _) hs (j := 5) rfl, h.b.n.lt⟩
theorem OwnT.grown (h : OwnT w B bO t gC gU gI gS) {b : Nat} (hg : w.grownBy w' (some b)) (h0 : bO ≠ b) (h1 : gC ≠ b) (h2 : gU ≠ b) (h3 : gI ≠ b) (h4 : gS ≠ b) : OwnT w' B bO t gC gU gI gS := ⟨h.x.grown hg (by simpa using h0), h.b.grown hg h1 h2 h3 h4, h.le⟩
theorem OwnT.nes (h : OwnT w B bO t gC gU gI gS) : bO ≠ gS ∧ gC ≠ gS ∧ gU ≠ gS ∧ gI ≠ gS ∧ bO ≠ gI ∧ gC ≠ gI ∧ gU ≠ gI ∧ bO ≠ gU ∧ gC ≠ gU :=
  ⟨Bx.neq h.x (show Bx w gS _ _ from h.b.s) (by decide), Bx.neq (show Bx w gC _ _ from h.b.c) (show Bx w gS _ _ from h.b.s) (by decide), Bx.neq (show Bx w gU _ _ from h.b.u) (show Bx w gS _ _ from h.b.s) (by decide), Bx.neq (show Bx w gI _ _ from h.b.n) (show Bx w gS _ _ from h.b.s) (by decide),
   Bx.neq h.x (show Bx w gI _ _ from h.b.n) (by decide), Bx.neq (show Bx w gC _ _ from h.b.c) (show Bx w gI _ _ from h.b.n) (by decide), Bx.neq (show Bx w gU _ _ from h.b.u) (show Bx w gI _ _ from h.b.n) (by decide), Bx.neq h.x (show Bx w gU _ _ from h.b.u) (by decide), Bx.neq (show Bx w gC _ _ from h.b.c) (show Bx w gU _ _ from h.b.u) (by decide)⟩
def T.setSt (t : T) (k : Nat) (y : Int × Int) : T := ⟨t.self, t.states.set k y, t.mx, t.dl⟩
theorem OwnT.setS (h : OwnT w B bO t gC gU gI gS) (hk : k < t.states.length) (y : Int × Int) : OwnT ((w.setCell ⟨gS, k * 2, none⟩ (.int .i64 y.1)).setCell ⟨gS, k * 2 + 1, none⟩ (.int .i64 y.2)) B bO (t.setSt k y) gC gU gI gS := by
  obtain ⟨n1, n2, n3, n4, _⟩ := h.nes
  have hg := set2_grown w gS (k * 2) (k * 2 + 1) (.int .i64 y.1) (.int .i64 y.2)
  have hx := h.x.grown hg (by simpa using n1)
  have hs := Blk.set2 h.b.s (wholeP _) (i := k) (by rw [List.length_map]; exact hk) (.int .i64 y.1) (.int .i64 y.2)
  refine ⟨?_, ⟨h.b.c.grown hg (by simpa using n2), h.b.u.grown hg (by simpa using n3), h.b.n.grown hg (by simpa using n4), ?_, h.b.lc, h.b.lu, h.b.ln, h.b.ls⟩, h.le⟩
  · have e : (t.setSt k y).states.length = t.states.length := by unfold T.setSt; simp
    unfold tcO
    rw [e]; exact hx
  · unfold T.setSt
    simp only [List.map_set]
    exact hs
/-- The first k settled. -/
def T.upto (t : T) (f : Nat → Int × Int) (k : Nat) : T := ⟨t.self, (List.range k).map f ++ t.states.drop k, t.mx, t.dl⟩
theorem upto_zero (t : T) (f : Nat → Int × Int) : t.upto f 0 = t := by cases t; simp [T.upto]
theorem upto_len {f : Nat → Int × Int} (h : k ≤ t.states.length) : (t.upto f k).states.length = t.states.length := by simp [T.upto]; omega
theorem upto_at {f : Nat → Int × Int} (h : k < t.states.length) : (t.upto f k).states[k]? = some (t.st k) := by
  unfold T.upto
  simp only
  rw [List.getElem?_append_right (by simp), List.getElem?_drop]
  simp only [List.length_map, List.length_range, Nat.sub_self, Nat.add_zero]
  exact st_at h
theorem upto_set {f : Nat → Int × Int} (h : k < t.states.length) : (t.upto f k).setSt k (f k) = t.upto f (k + 1) := by
  unfold T.setSt T.upto
  simp only
  congr 1
  rw [List.set_append_right _ _ (by simp), List.range_succ, List.map_append, List.append_assoc]
  simp only [List.length_map, List.length_range, Nat.sub_self]
  congr 1
  rw [List.drop_eq_getElem_cons h]; rfl
theorem upto_all {f : Nat → Int × Int} : t.upto f t.states.length = ⟨t.self, (List.range t.states.length).map f, t.mx, t.dl⟩ := by simp [T.upto]
end
theorem role_row {s : S} {k : Nat} {w : World} {g : Nat} (h : Blk w g 3 (IntP.cI s.roles)) (hk : k < s.costs.length) : w.cell? ⟨g, k, none⟩ = some (.int .i64 (s.role k)) := by
  have hs : (IntP.cI s.roles)[k]? = some [.int .i64 (s.role k)] := by unfold IntP.cI; rw [List.getElem?_map, role_at s hk]; rfl
  simpa using h.cell (IntP.whole _) hs (j := 0) rfl
theorem prole_to {x y : Int × Int} {d : Int} {a : Bool} (h : okS x.1 x.2 d = true) (hy : roleS x.1 x.2 d a = y) (w : World) : Calls Try.prog 62 #[.agg #[.int .i64 x.1, .int .i64 x.2], .int .i64 d, .bool a] w fun e w' => e = .returned (.tuple #[.agg #[.int .i64 y.1, .int .i64 y.2], .int .i64 0]) ∧ Below w.heap.size w w' := by
  have := PortP.p_role_ok x.1 x.2 d a w h
  unfold PortP.RetSt at this
  rwa [hy] at this
set_option maxHeartbeats 16000000 in
theorem o_settle {w : World} {B bO : Nat} {t : T} {gC gU gI gS : Nat} (hp : Pre t) (hB : B ≤ w.heap.size) (h : OwnT w B bO t gC gU gI gS) : Calls Try.prog 29 #[.pointer (some ⟨bO, 0, none⟩)] w fun e w' => e = .returned (.tuple #[]) ∧ OwnT w' B bO t.settle gC gU gI gS ∧ Below B w w' := by
  have hR := Lib.hid (show TreeR w t (some ⟨gC, 0, none⟩) t.self.costs.length (some ⟨gU, 0, none⟩) t.self.ups.length (some ⟨gI, 0, none⟩) t.self.infos.length (some ⟨gS, 0, none⟩) t.states.length from h.b.tree)
  have hn8 : t.states.length ≤ 8 := by have h2 := (head_iff.1 (ok_head hp.self)).2.1.2; have := hp.len; omega
  have hl3 : t.self.costs.length ≤ 1000 ∧ t.self.ups.length ≤ 1000 ∧ t.self.infos.length ≤ 1000 := by
    have h1 := (head_iff.1 (ok_head hp.self)).2
    have := hp.len
    omega
  have hcall := Lib.hid (o_roles_blk hp.self hl3 hR.out.self)
  have hls := Lib.hid hp.len
  have hlc : t.self.costs.length = t.states.length := hp.len.symm
  have hdd := Lib.hid hp.sts
  replace hlc := Lib.hid hlc
  have H := Lib.hid h
  have zz := h.x.lt
  clear hp h hl3 hR
  have o0 := H.out.c (i := 0) rfl
  have o1 := H.out.c (i := 1) rfl
  have o2 := H.out.c (i := 2) rfl
  have o3 := H.out.c (i := 3) rfl
  have o4 := H.out.c (i := 4) rfl
  have o5 := H.out.c (i := 5) rfl
  have o6 := H.out.c (i := 6) rfl
  go_enter Try.func29, Try.ntmps29
  go_wp2_with fail
  clear zz o0 o1 o2 o3 o4 o5 o6
  go_at_call 36
  (with_reducible refine hcall.out.mono ?_)
  rintro e w1 ⟨gR, rfl, lR, kR, hb1⟩
  rw [hlc.out]
  have H1 := Lib.hid (H.out.below hb1)
  have B1 := Lib.hid (show Below B w w1 from hb1.mono hB)
  have hB1 := Lib.hid (show B ≤ w1.heap.size from Nat.le_trans hB hb1.size)
  have hgR := Lib.hid (show gR ≠ gS by have := H.out.b.s.lt; omega)
  have K1 := Lib.hid kR
  clear hcall H hb1 lR kR hB
  go_wp2_with fail
  go_loopw [16] (fun i wr => ∃ k : Nat, k ≤ t.states.length ∧ i = .int .i64 k ∧ OwnT wr B bO (t.upto t.settled k) gC gU gI gS ∧ Blk wr gR 3 (IntP.cI t.self.roles) ∧ Below B w1 wr) (fun i _ => t.states.length - (intOf i).toNat)
  case atStart => exact ⟨0, by omega, rfl, by rw [upto_zero]; exact H1.out, K1.out, (Below.refl _ _).mono hB1.out⟩
  case round =>
    clear H1 K1
    obtain ⟨k, hk, rfl, H, K9, hb9⟩ := hrel
    by_cases hkn : k < t.states.length
    · have hkl : (k : Int) < (t.states.length : Int) := by omega
      obtain ⟨rl, hrl⟩ : ∃ r, t.self.role k = r := ⟨_, rfl⟩
      obtain ⟨ac, hac⟩ : ∃ r, actI rl = r := ⟨_, rfl⟩
      obtain ⟨x, hx⟩ : ∃ x, t.st k = x := ⟨_, rfl⟩
      obtain ⟨y, hy⟩ : ∃ y, roleS x.1 x.2 t.dl ac = y := ⟨_, rfl⟩
      have q9 := role_row K9 (k := k) (by rw [hlc.out]; exact hkn)
      rw [hrl] at q9
      have hgl := K9.lt
      have hyk := Lib.hid (show t.settled k = y by unfold T.settled T.act; rw [hx, hrl, hac, hy])
      have hokx : okS x.1 x.2 t.dl = true := by rw [← hx]; exact hdd.out k hkn
      have cA := Lib.hid fun (W : World) => oact_to hac W
      have cP := Lib.hid fun (W : World) => prole_to hokx hy W
      have hat := upto_at (f := t.settled) hkn
      rw [hx] at hat
      obtain ⟨s0, s1, zS⟩ := H.st hat
      have hul := upto_len (f := t.settled) hk
      have zO := H.x.lt
      have o0 : wr.cell? ⟨bO, 0, none⟩ = some (.int .i64 t.self.id) := H.c (i := 0) rfl
      have o1 : wr.cell? ⟨bO, 1, none⟩ = some (.slice (some ⟨gC, 0, none⟩) t.self.costs.length t.self.costs.length) := H.c (i := 1) rfl
      have o2 : wr.cell? ⟨bO, 2, none⟩ = some (.slice (some ⟨gU, 0, none⟩) t.self.ups.length t.self.ups.length) := H.c (i := 2) rfl
      have o3 : wr.cell? ⟨bO, 3, none⟩ = some (.slice (some ⟨gI, 0, none⟩) t.self.infos.length t.self.infos.length) := H.c (i := 3) rfl
      have o4 : wr.cell? ⟨bO, 4, none⟩ = some (.slice (some ⟨gS, 0, none⟩) (t.upto t.settled k).states.length (t.upto t.settled k).states.length) := H.c (i := 4) rfl
      have o5 : wr.cell? ⟨bO, 5, none⟩ = some (.int .i64 t.mx) := H.c (i := 5) rfl
      have o6 : wr.cell? ⟨bO, 6, none⟩ = some (.int .i64 t.dl) := H.c (i := 6) rfl
      rw [hul] at o4
      have fS0 := H.b.s.free (k * 2)
      have fS1 := H.b.s.free (k * 2 + 1)
      have hkk := Lib.hid hkn
      have H' := Lib.hid H
      have K' := Lib.hid K9
      have hb' := Lib.hid hb9
      have hul' := Lib.hid hul
      replace hrl := Lib.hid hrl
      replace hac := Lib.hid hac
      replace hx := Lib.hid hx
      replace hy := Lib.hid hy
      clear hat hul H K9 hb9 hokx
      go_upto_region 4 with fail
      clear q9 hgl
      refine Go.Proofs.Ytidoaccidmmalaa.MacP.wp_region_free (by kernel_rfl) (fun ix => match ix with | 0 => 22 | 1 => 23 | 2 => 24 | 3 => 25 | 4 => 26 | 5 => 27 | 6 => 28 | 7 => 29 | 8 => 30 | 9 => 31 | 10 => 32 | 11 => 33 | 12 => 34 | 13 => 35 | 14 => 36 | 15 => 37 | 16 => 38 | 17 => 39 | 18 => 40 | 19 => 21 | 20 => 41 | 21 => 42 | 22 => 43 | _ => 0) 0 23 (fun ix => ix == 21) (fun ix => match ix with | 21 => .int .i64 0 | _ => .bool true) (by decide) (by decide) rfl rfl (by kernel_rfl) (by kernel_rfl) (by kernel_rfl) (fun W' => Below wr.heap.size wr W') (fun W' W'' => Below W'.heap.size W' W'') (fun W' h => h) (fun W' W'' h h' => bt h h') (fun W' W'' h h' => bt h h') (fun i v _ => match i with | 0 => v = .pointer (some ⟨bO, 0, none⟩) | 1 => v = .pointer (some ⟨bO, 0, none⟩) | 2 => v = .pointer (some ⟨bO, 4, none⟩) | 3 => v = .slice (some ⟨gS, 0, none⟩) t.states.length t.states.length | 4 => v = .int .i64 k | 5 => v = .pointer (some ⟨bO, 0, none⟩) | 6 => v = .pointer (some ⟨bO, 0, none⟩) | 7 => v = .pointer (some ⟨bO, 4, none⟩) | 8 => v = .slice (some ⟨gS, 0, none⟩) t.states.length t.states.length | 9 => v = .int .i64 k | 10 => v = .pointer (some ⟨gS, k * 2, none⟩) | 11 => v = .agg #[.int .i64 x.1, .int .i64 x.2] | 12 => v = .pointer (some ⟨bO, 0, none⟩) | 13 => v = .pointer (some ⟨bO, 0, none⟩) | 14 => v = .pointer (some ⟨bO, 6, none⟩) | 15 => v = .int .i64 t.dl | 16 => v = .int .i64 rl | 17 => v = .bool ac | 18 => v = .tuple #[.agg #[.int .i64 y.1, .int .i64 y.2], .int .i64 0] | 19 => v = .tuple #[.agg #[.int .i64 y.1, .int .i64 y.2], .int .i64 0] | 20 => v = .agg #[.int .i64 y.1, .int .i64 y.2] | 22 => v = .pointer (some ⟨gS, k * 2, none⟩) | _ => True) (fun i v W W' h _ => h) (fun i v W W' _ h _ _ => h) ?_
      refine ⟨?_, ?_, ?_, ?_, ?_, ?_, ?_, ?_, ?_, ?_, ?_, ?_, ?_, ?_, ?_, ?_, ?_, ?_, ?_, ?_, ?_, ?_, ?_, ?_, trivial⟩
      · as_aux_lemma =>
          intro a9 W2 K hR hm hdep hk hK hall
          replace hK : ∀ v w', v = .pointer (some ⟨bO, 0, none⟩) → Below W2.heap.size W2 w' → K (a9.put (some 22) v) w' := hK
          have hb := hR rfl
          have d0 : a9.tmps.getD 0 undef = .pointer (some ⟨bO, 0, none⟩) := hk 0 (by kernel_rfl)
          clear hdep hk hm hR hall hb
          go_simp
          exact hK _ _ rfl (Below.refl _ _)
      · as_aux_lemma =>
          intro a9 W2 K hR hm hdep hk hK hall
          replace hK : ∀ v w', v = .pointer (some ⟨bO, 0, none⟩) → Below W2.heap.size W2 w' → K (a9.put (some 23) v) w' := hK
          have hb := hR rfl
          have d22 : a9.tmps.getD 22 undef = .pointer (some ⟨bO, 0, none⟩) := ((hdep ⟨0, .data⟩ (by simp) rfl (by decide)).2 rfl).2 rfl
          clear hdep hk hm hR hall hb
          go_simp
          exact hK _ _ rfl (Below.refl _ _)
      · as_aux_lemma =>
          intro a9 W2 K hR hm hdep hk hK hall
          replace hK : ∀ v w', v = .pointer (some ⟨bO, 4, none⟩) → Below W2.heap.size W2 w' → K (a9.put (some 24) v) w' := hK
          have hb := hR rfl
          have d23 : a9.tmps.getD 23 undef = .pointer (some ⟨bO, 0, none⟩) := ((hdep ⟨1, .data⟩ (by simp) rfl (by decide)).2 rfl).2 rfl
          clear hdep hk hm hR hall hb
          go_simp
          exact hK _ _ rfl (Below.refl _ _)
      · as_aux_lemma =>
          intro a9 W2 K hR hm hdep hk hK hall
          replace hK : ∀ v w', v = .slice (some ⟨gS, 0, none⟩) t.states.length t.states.length → Below W2.heap.size W2 w' → K (a9.put (some 25) v) w' := hK
          have hb := hR rfl
          have d24 : a9.tmps.getD 24 undef = .pointer (some ⟨bO, 4, none⟩) := ((hdep ⟨2, .data⟩ (by simp) rfl (by decide)).2 rfl).2 rfl
          have t4 := (hb.cell (p := ⟨bO, 4, none⟩) zO).trans o4
          clear hdep hk hm hR hall hb
          go_simp
          exact hK _ _ rfl (Below.refl _ _)
      · as_aux_lemma =>
          intro a9 W2 K hR hm hdep hk hK hall
          replace hK : ∀ v w', v = .int .i64 k → Below W2.heap.size W2 w' → K (a9.put (some 26) v) w' := hK
          have hb := hR rfl
          have d4 : a9.tmps.getD 4 undef = .int .i64 k := hk 4 (by kernel_rfl)
          clear hdep hk hm hR hall hb
          go_simp
          exact hK _ _ rfl (Below.refl _ _)
      · as_aux_lemma =>
          intro a9 W2 K hR hm hdep hk hK hall
          replace hK : ∀ v w', v = .pointer (some ⟨bO, 0, none⟩) → Below W2.heap.size W2 w' → K (a9.put (some 27) v) w' := hK
          have hb := hR rfl
          have d0 : a9.tmps.getD 0 undef = .pointer (some ⟨bO, 0, none⟩) := hk 0 (by kernel_rfl)
          clear hdep hk hm hR hall hb
          go_simp
          exact hK _ _ rfl (Below.refl _ _)
      · as_aux_lemma =>
          intro a9 W2 K hR hm hdep hk hK hall
          replace hK : ∀ v w', v = .pointer (some ⟨bO, 0, none⟩) → Below W2.heap.size W2 w' → K (a9.put (some 28) v) w' := hK
          have hb := hR rfl
          have d27 : a9.tmps.getD 27 undef = .pointer (some ⟨bO, 0, none⟩) := ((hdep ⟨5, .data⟩ (by simp) rfl (by decide)).2 rfl).2 rfl
          clear hdep hk hm hR hall hb
          go_simp
          exact hK _ _ rfl (Below.refl _ _)
      · as_aux_lemma =>
          intro a9 W2 K hR hm hdep hk hK hall
          replace hK : ∀ v w', v = .pointer (some ⟨bO, 4, none⟩) → Below W2.heap.size W2 w' → K (a9.put (some 29) v) w' := hK
          have hb := hR rfl
          have d28 : a9.tmps.getD 28 undef = .pointer (some ⟨bO, 0, none⟩) := ((hdep ⟨6, .data⟩ (by simp) rfl (by decide)).2 rfl).2 rfl
          clear hdep hk hm hR hall hb
          go_simp
          exact hK _ _ rfl (Below.refl _ _)
      · as_aux_lemma =>
          intro a9 W2 K hR hm hdep hk hK hall
          replace hK : ∀ v w', v = .slice (some ⟨gS, 0, none⟩) t.states.length t.states.length → Below W2.heap.size W2 w' → K (a9.put (some 30) v) w' := hK
          have hb := hR rfl
          have d29 : a9.tmps.getD 29 undef = .pointer (some ⟨bO, 4, none⟩) := ((hdep ⟨7, .data⟩ (by simp) rfl (by decide)).2 rfl).2 rfl
          have t4 := (hb.cell (p := ⟨bO, 4, none⟩) zO).trans o4
          clear hdep hk hm hR hall hb
          go_simp
          exact hK _ _ rfl (Below.refl _ _)
      · as_aux_lemma =>
          intro a9 W2 K hR hm hdep hk hK hall
          replace hK : ∀ v w', v = .int .i64 k → Below W2.heap.size W2 w' → K (a9.put (some 31) v) w' := hK
          have hb := hR rfl
          have d4 : a9.tmps.getD 4 undef = .int .i64 k := hk 4 (by kernel_rfl)
          clear hdep hk hm hR hall hb
          go_simp
          exact hK _ _ rfl (Below.refl _ _)
      · as_aux_lemma =>
          intro a9 W2 K hR hm hdep hk hK hall
          replace hK : ∀ v w', v = .pointer (some ⟨gS, k * 2, none⟩) → Below W2.heap.size W2 w' → K (a9.put (some 32) v) w' := hK
          have hb := hR rfl
          have d30 : a9.tmps.getD 30 undef = .slice (some ⟨gS, 0, none⟩) t.states.length t.states.length := ((hdep ⟨8, .data⟩ (by simp) rfl (by decide)).2 rfl).2 rfl
          have d31 : a9.tmps.getD 31 undef = .int .i64 k := ((hdep ⟨9, .data⟩ (by simp) rfl (by decide)).2 rfl).2 rfl
          clear hdep hk hm hR hall hb
          go_simp
          exact hK _ _ rfl (Below.refl _ _)
      · as_aux_lemma =>
          intro a9 W2 K hR hm hdep hk hK hall
          replace hK : ∀ v w', v = .agg #[.int .i64 x.1, .int .i64 x.2] → Below W2.heap.size W2 w' → K (a9.put (some 33) v) w' := hK
          have hb := hR rfl
          have d32 : a9.tmps.getD 32 undef = .pointer (some ⟨gS, k * 2, none⟩) := ((hdep ⟨10, .data⟩ (by simp) rfl (by decide)).2 rfl).2 rfl
          have t0 := (hb.cell (p := ⟨gS, k * 2, none⟩) zS).trans s0
          have t1 := (hb.cell (p := ⟨gS, k * 2 + 1, none⟩) zS).trans s1
          clear hdep hk hm hR hall hb
          go_simp
          exact hK _ _ rfl (Below.refl _ _)
      · as_aux_lemma =>
          intro a9 W2 K hR hm hdep hk hK hall
          replace hK : ∀ v w', v = .pointer (some ⟨bO, 0, none⟩) → Below W2.heap.size W2 w' → K (a9.put (some 34) v) w' := hK
          have hb := hR rfl
          have d0 : a9.tmps.getD 0 undef = .pointer (some ⟨bO, 0, none⟩) := hk 0 (by kernel_rfl)
          clear hdep hk hm hR hall hb
          go_simp
          exact hK _ _ rfl (Below.refl _ _)
      · as_aux_lemma =>
          intro a9 W2 K hR hm hdep hk hK hall
          replace hK : ∀ v w', v = .pointer (some ⟨bO, 0, none⟩) → Below W2.heap.size W2 w' → K (a9.put (some 35) v) w' := hK
          have hb := hR rfl
          have d34 : a9.tmps.getD 34 undef = .pointer (some ⟨bO, 0, none⟩) := ((hdep ⟨12, .data⟩ (by simp) rfl (by decide)).2 rfl).2 rfl
          clear hdep hk hm hR hall hb
          go_simp
          exact hK _ _ rfl (Below.refl _ _)
      · as_aux_lemma =>
          intro a9 W2 K hR hm hdep hk hK hall
          replace hK : ∀ v w', v = .pointer (some ⟨bO, 6, none⟩) → Below W2.heap.size W2 w' → K (a9.put (some 36) v) w' := hK
          have hb := hR rfl
          have d35 : a9.tmps.getD 35 undef = .pointer (some ⟨bO, 0, none⟩) := ((hdep ⟨13, .data⟩ (by simp) rfl (by decide)).2 rfl).2 rfl
          clear hdep hk hm hR hall hb
          go_simp
          exact hK _ _ rfl (Below.refl _ _)
      · as_aux_lemma =>
          intro a9 W2 K hR hm hdep hk hK hall
          replace hK : ∀ v w', v = .int .i64 t.dl → Below W2.heap.size W2 w' → K (a9.put (some 37) v) w' := hK
          have hb := hR rfl
          have d36 : a9.tmps.getD 36 undef = .pointer (some ⟨bO, 6, none⟩) := ((hdep ⟨14, .data⟩ (by simp) rfl (by decide)).2 rfl).2 rfl
          have t6 := (hb.cell (p := ⟨bO, 6, none⟩) zO).trans o6
          clear hdep hk hm hR hall hb
          go_simp
          exact hK _ _ rfl (Below.refl _ _)
      · as_aux_lemma =>
          intro a9 W2 K hR hm hdep hk hK hall
          replace hK : ∀ v w', v = .int .i64 rl → Below W2.heap.size W2 w' → K (a9.put (some 38) v) w' := hK
          have hb := hR rfl
          have d5 : a9.tmps.getD 5 undef = .int .i64 rl := hk 5 (by kernel_rfl)
          clear hdep hk hm hR hall hb
          go_simp
          exact hK _ _ rfl (Below.refl _ _)
      · as_aux_lemma =>
          intro a9 W2 K hR hm hdep hk hK hall
          replace hK : ∀ v w', v = .bool ac → Below W2.heap.size W2 w' → K (a9.put (some 39) v) w' := hK
          have hb := hR rfl
          have d38 : a9.tmps.getD 38 undef = .int .i64 rl := ((hdep ⟨16, .data⟩ (by simp) rfl (by decide)).2 rfl).2 rfl
          have hcall := Lib.hid (cA.out W2)
          clear hdep hk hm hR hall hb
          clear cA cP
          have q38 : a9.tmps[38]?.getD undef = .int .i64 rl := by simpa [Array.getD_eq_getD_getElem?] using d38
          clear d38
          go_simp
          refine hcall.out.mono ?_
          rintro e w9 ⟨rfl, r2⟩
          exact hK _ _ rfl r2
      · as_aux_lemma =>
          intro a9 W2 K hR hm hdep hk hK hall
          replace hK : ∀ v w', v = .tuple #[.agg #[.int .i64 y.1, .int .i64 y.2], .int .i64 0] → Below W2.heap.size W2 w' → K (a9.put (some 40) v) w' := hK
          have hb := hR rfl
          have d33 : a9.tmps.getD 33 undef = .agg #[.int .i64 x.1, .int .i64 x.2] := ((hdep ⟨11, .data⟩ (by simp) rfl (by decide)).2 rfl).2 rfl
          have d37 : a9.tmps.getD 37 undef = .int .i64 t.dl := ((hdep ⟨15, .data⟩ (by simp) rfl (by decide)).2 rfl).2 rfl
          have d39 : a9.tmps.getD 39 undef = .bool ac := ((hdep ⟨17, .data⟩ (by simp) rfl (by decide)).2 rfl).2 rfl
          have hcall := Lib.hid (cP.out W2)
          clear hdep hk hm hR hall hb
          clear cA cP
          have q33 : a9.tmps[33]?.getD undef = .agg #[.int .i64 x.1, .int .i64 x.2] := by simpa [Array.getD_eq_getD_getElem?] using d33
          clear d33
          have q37 : a9.tmps[37]?.getD undef = .int .i64 t.dl := by simpa [Array.getD_eq_getD_getElem?] using d37
          clear d37
          have q39 : a9.tmps[39]?.getD undef = .bool ac := by simpa [Array.getD_eq_getD_getElem?] using d39
          clear d39
          go_simp
          refine hcall.out.mono ?_
          rintro e w9 ⟨rfl, r2⟩
          exact hK _ _ rfl r2
      · as_aux_lemma =>
          intro a9 W2 K hR hm hdep hk hK hall
          replace hK : ∀ v w', v = .tuple #[.agg #[.int .i64 y.1, .int .i64 y.2], .int .i64 0] → Below W2.heap.size W2 w' → K (a9.put (some 21) v) w' := hK
          have hb := hR rfl
          have d40 : a9.tmps.getD 40 undef = .tuple #[.agg #[.int .i64 y.1, .int .i64 y.2], .int .i64 0] := ((hdep ⟨18, .data⟩ (by simp) rfl (by decide)).2 rfl).2 rfl
          clear hdep hk hm hR hall hb
          go_simp
          exact hK _ _ rfl (Below.refl _ _)
      · as_aux_lemma =>
          intro a9 W2 K hR hm hdep hk hK hall
          replace hK : ∀ v w', v = .agg #[.int .i64 y.1, .int .i64 y.2] → Below W2.heap.size W2 w' → K (a9.put (some 41) v) w' := hK
          have hb := hR rfl
          have d21 : a9.tmps.getD 21 undef = .tuple #[.agg #[.int .i64 y.1, .int .i64 y.2], .int .i64 0] := ((hdep ⟨19, .data⟩ (by simp) rfl (by decide)).2 rfl).2 rfl
          clear hdep hk hm hR hall hb
          go_simp
          exact hK _ _ rfl (Below.refl _ _)
      · as_aux_lemma =>
          intro a9 W2 K hR hm hdep hk hK hall
          replace hK : K (a9.put (some 42) (.int .i64 0)) W2 := hK
          have d21 : a9.tmps.getD 21 undef = .tuple #[.agg #[.int .i64 y.1, .int .i64 y.2], .int .i64 0] := ((hdep ⟨19, .data⟩ (by simp) rfl (by decide)).2 rfl).1.elim fun _ h => h
          clear hdep hk hm hR hall
          go_simp
          exact hK
      · as_aux_lemma =>
          intro a9 W2 K hR hm hdep hk hK hall
          replace hK : ∀ v w', v = .pointer (some ⟨gS, k * 2, none⟩) → Below W2.heap.size W2 w' → K (a9.put (some 43) v) w' := hK
          have hb := hR rfl
          have d25 : a9.tmps.getD 25 undef = .slice (some ⟨gS, 0, none⟩) t.states.length t.states.length := ((hdep ⟨3, .data⟩ (by simp) rfl (by decide)).2 rfl).2 rfl
          have d26 : a9.tmps.getD 26 undef = .int .i64 k := ((hdep ⟨4, .data⟩ (by simp) rfl (by decide)).2 rfl).2 rfl
          clear hdep hk hm hR hall hb
          go_simp
          exact hK _ _ rfl (Below.refl _ _)
      · intro a9 W2 K hR hm hdep hk hK hall
        replace hK : ∀ w', (∀ a', Go.Proofs.Ytidoaccidmmalaa.MacP.Ended _ _ _ _ a9 a' → _) → K a9 w' := hK
        obtain ⟨hsp, hn, hdf⟩ := hall rfl
        have hb := hR rfl
        have t0 := (hb.cell (p := ⟨gS, k * 2, none⟩) zS).trans s0
        have t1 := (hb.cell (p := ⟨gS, k * 2 + 1, none⟩) zS).trans s1
        have u0 := (hb.frozen (p := ⟨gS, k * 2, none⟩) zS).trans fS0
        have u1 := (hb.frozen (p := ⟨gS, k * 2 + 1, none⟩) zS).trans fS1
        have HW := H'.out.below hb
        have h41 : a9.tmps.getD 41 undef = .agg #[.int .i64 y.1, .int .i64 y.2] := hsp 20 (by decide) rfl
        have h43 : a9.tmps.getD 43 undef = .pointer (some ⟨gS, k * 2, none⟩) := hsp 22 (by decide) rfl
        obtain ⟨w9, hwS⟩ : ∃ W, W = ((W2.setCell ⟨gS, k * 2, none⟩ (.int .i64 y.1)).setCell ⟨gS, k * 2 + 1, none⟩ (.int .i64 y.2)) := ⟨_, rfl⟩
        have hKK := Lib.hid (hK w9)
        have H9 := Lib.hid (show OwnT w9 B bO (t.upto t.settled (k + 1)) gC gU gI gS by rw [hwS, ← upto_set hkk.out, hyk.out]; exact HW.setS (by rw [hul'.out]; exact hkk.out) y)
        have g9 : W2.grownBy w9 (some gS) := by rw [hwS]; exact set2_grown _ _ _ _ _ _
        have K9 := Lib.hid (show Blk w9 gR 3 (IntP.cI t.self.roles) from (K'.out.below hb).grown g9 (by simpa using hgR.out))
        have B9 := Lib.hid (show Below B w1 w9 from (hb'.out.trans (hb.mono (Nat.le_trans hB1.out hb'.out.size))).trans (grown_below g9 (fun j hj => by cases hj; exact HW.b.ls) (Nat.le_trans hB1.out (Nat.le_trans hb'.out.size hb.size))))
        clear HW g9
        clear hK hsp hR hall hm hdep hb
        replace hn := Lib.hid hn
        replace hk := Lib.hid hk
        have q41 : a9.tmps[41]?.getD undef = .agg #[.int .i64 y.1, .int .i64 y.2] := by simpa [Array.getD_eq_getD_getElem?] using h41
        clear h41
        have q43 : a9.tmps[43]?.getD undef = .pointer (some ⟨gS, k * 2, none⟩) := by simpa [Array.getD_eq_getD_getElem?] using h43
        clear h43
        go_simp
        rw [← hwS]
        refine hKK.out ?_
        rintro am ⟨h1', h2', h3, h4⟩
        have hn2 := h1'.trans hn.out
        have hdf2 := h2'.trans hdf
        replace hk := hk.out
        clear hwS hn hdf h1' h2' q41 q43
        have s0 : am.tmps.getD 0 undef = .pointer (some ⟨bO, 0, none⟩) := (h3 0 (by decide +revert)).trans (hk 0 (by kernel_rfl))
        have s1 : am.tmps.getD 1 undef = undef := (h3 1 (by decide +revert)).trans (hk 1 (by kernel_rfl))
        have s2 : am.tmps.getD 2 undef = .slice (some ⟨gR, 0, none⟩) t.states.length t.states.length := (h3 2 (by decide +revert)).trans (hk 2 (by kernel_rfl))
        have s3 : am.tmps.getD 3 undef = .int .i64 0 := (h3 3 (by decide +revert)).trans (hk 3 (by kernel_rfl))
        have s4 : am.tmps.getD 4 undef = .int .i64 k := (h3 4 (by decide +revert)).trans (hk 4 (by kernel_rfl))
        have s5 : am.tmps.getD 5 undef = .int .i64 rl := (h3 5 (by decide +revert)).trans (hk 5 (by kernel_rfl))
        have s6 : am.tmps.getD 6 undef = .tuple #[.slice (some ⟨gR, 0, none⟩) t.states.length t.states.length, .int .i64 0] := (h3 6 (by decide +revert)).trans (hk 6 (by kernel_rfl))
        have s7 : am.tmps.getD 7 undef = .pointer (some ⟨bO, 0, none⟩) := (h3 7 (by decide +revert)).trans (hk 7 (by kernel_rfl))
        have s8 : am.tmps.getD 8 undef = .pointer (some ⟨bO, 0, none⟩) := (h3 8 (by decide +revert)).trans (hk 8 (by kernel_rfl))
        have s9 : am.tmps.getD 9 undef = .pointer (some ⟨bO, 0, none⟩) := (h3 9 (by decide +revert)).trans (hk 9 (by kernel_rfl))
        have s10 : am.tmps.getD 10 undef = .agg #[.int .i64 t.self.id, .slice (some ⟨gC, 0, none⟩) t.states.length t.states.length, .slice (some ⟨gU, 0, none⟩) t.self.ups.length t.self.ups.length, .slice (some ⟨gI, 0, none⟩) t.self.infos.length t.self.infos.length] := (h3 10 (by decide +revert)).trans (hk 10 (by kernel_rfl))
        have s11 : am.tmps.getD 11 undef = .tuple #[.slice (some ⟨gR, 0, none⟩) t.states.length t.states.length, .int .i64 0] := (h3 11 (by decide +revert)).trans (hk 11 (by kernel_rfl))
        have s12 : am.tmps.getD 12 undef = .slice (some ⟨gR, 0, none⟩) t.states.length t.states.length := (h3 12 (by decide +revert)).trans (hk 12 (by kernel_rfl))
        have s13 : am.tmps.getD 13 undef = .int .i64 0 := (h3 13 (by decide +revert)).trans (hk 13 (by kernel_rfl))
        have s14 : am.tmps.getD 14 undef = .slice (some ⟨gR, 0, none⟩) t.states.length t.states.length := (h3 14 (by decide +revert)).trans (hk 14 (by kernel_rfl))
        have s15 : am.tmps.getD 15 undef = .int .i64 t.states.length := (h3 15 (by decide +revert)).trans (hk 15 (by kernel_rfl))
        have s16 : am.tmps.getD 16 undef = .int .i64 k := (h3 16 (by decide +revert)).trans (hk 16 (by kernel_rfl))
        clear hk hKK h3 h4
        obtain ⟨tm, df⟩ := am
        have e := arr_out tm 45 hn2
        replace e : tm = #[tm.getD 0 undef, tm.getD 1 undef, tm.getD 2 undef, tm.getD 3 undef, tm.getD 4 undef, tm.getD 5 undef, tm.getD 6 undef, tm.getD 7 undef, tm.getD 8 undef, tm.getD 9 undef, tm.getD 10 undef, tm.getD 11 undef, tm.getD 12 undef, tm.getD 13 undef, tm.getD 14 undef, tm.getD 15 undef, tm.getD 16 undef, tm.getD 17 undef, tm.getD 18 undef, tm.getD 19 undef, tm.getD 20 undef, tm.getD 21 undef, tm.getD 22 undef, tm.getD 23 undef, tm.getD 24 undef, tm.getD 25 undef, tm.getD 26 undef, tm.getD 27 undef, tm.getD 28 undef, tm.getD 29 undef, tm.getD 30 undef, tm.getD 31 undef, tm.getD 32 undef, tm.getD 33 undef, tm.getD 34 undef, tm.getD 35 undef, tm.getD 36 undef, tm.getD 37 undef, tm.getD 38 undef, tm.getD 39 undef, tm.getD 40 undef, tm.getD 41 undef, tm.getD 42 undef, tm.getD 43 undef, tm.getD 44 undef] := e
        simp only at s0 s1 s2 s3 s4 s5 s6 s7 s8 s9 s10 s11 s12 s13 s14 s15 s16 hdf2
        rw [s0, s1, s2, s3, s4, s5, s6, s7, s8, s9, s10, s11, s12, s13, s14, s15, s16] at e
        subst hdf2
        clear s0 s1 s2 s3 s4 s5 s6 s7 s8 s9 s10 s11 s12 s13 s14 s15 s16 hn2
        generalize tm.getD 17 undef = u17 at e
        generalize tm.getD 18 undef = u18 at e
        generalize tm.getD 19 undef = u19 at e
        generalize tm.getD 20 undef = u20 at e
        generalize tm.getD 21 undef = u21 at e
        generalize tm.getD 22 undef = u22 at e
        generalize tm.getD 23 undef = u23 at e
        generalize tm.getD 24 undef = u24 at e
        generalize tm.getD 25 undef = u25 at e
        generalize tm.getD 26 undef = u26 at e
        generalize tm.getD 27 undef = u27 at e
        generalize tm.getD 28 undef = u28 at e
        generalize tm.getD 29 undef = u29 at e
        generalize tm.getD 30 undef = u30 at e
        generalize tm.getD 31 undef = u31 at e
        generalize tm.getD 32 undef = u32 at e
        generalize tm.getD 33 undef = u33 at e
        generalize tm.getD 34 undef = u34 at e
        generalize tm.getD 35 undef = u35 at e
        generalize tm.getD 36 undef = u36 at e
        generalize tm.getD 37 undef = u37 at e
        generalize tm.getD 38 undef = u38 at e
        generalize tm.getD 39 undef = u39 at e
        generalize tm.getD 40 undef = u40 at e
        generalize tm.getD 41 undef = u41 at e
        generalize tm.getD 42 undef = u42 at e
        generalize tm.getD 43 undef = u43 at e
        generalize tm.getD 44 undef = u44 at e
        subst e
        go_wp2_with fail
        go_roundw
        case rel => exact ⟨k + 1, by have := hkk.out; omega, by go_num, H9.out, K9.out, B9.out⟩
        case measure => simp [intOf]; omega
    · obtain rfl : k = t.states.length := by omega
      rw [upto_all] at H
      have H9 := Lib.hid (show OwnT wr B bO t.settle gC gU gI gS from H)
      have B9 := Lib.hid (B1.out.trans hb9)
      clear H K9 hb9
      go_wp2_with fail
      go_end0
      exact ⟨rfl, H9.out, B9.out⟩
end Go.Proofs.Ytidoaccidmmalaa.StpP
