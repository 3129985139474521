/-
  Contracts of footwayref11: way, RootPort.
-/
import Derived.Test.YtidoaccidmmalaaRoleR
import Derived.Deep.RegionWith
namespace Go.Proofs.Ytidoaccidmmalaa.RoleP
open Go.RowKit Go.Sort Go.Proofs.Ytidoaccidmmalaa.SliceP Go.Proofs.Ytidoaccidmmalaa.BoxP Go.Proofs.Ytidoaccidmmalaa.VecP
open Go.Proofs.Ytidoaccidmmalaa.IntP (RowI SlI OwnI)
open Go.Proofs.Ytidoaccidmmalaa.BoolP (RowB SlB)
set_option linter.unusedVariables false
set_option maxRecDepth 100000
theorem Bx.set4 {w : World} {b : Nat} {T : TypeId} {v0 v1 v2 v3 u0 u1 u2 u3 : Value} (h : Bx w b T #[v0, v1, v2, v3]) : Bx ((((w.setCell ⟨b, 0, none⟩ u0).setCell ⟨b, 1, none⟩ u1).setCell ⟨b, 2, none⟩ u2).setCell ⟨b, 3, none⟩ u3) b T #[u0, u1, u2, u3] := (((h.set 0 u0).set 1 u1).set 2 u2).set 3 u3
theorem below4 {n b : Nat} {w0 w : World} (h : Below n w0 w) (hb : n ≤ b) (v0 v1 v2 v3 : Value) : Below n w0 ((((w.setCell ⟨b, 0, none⟩ v0).setCell ⟨b, 1, none⟩ v1).setCell ⟨b, 2, none⟩ v2).setCell ⟨b, 3, none⟩ v3) := (((h.setCell hb _).setCell hb _).setCell hb _).setCell hb _
set_option maxHeartbeats 1000000 in
theorem ref_far (r c b p n : Int) (w : World) (n0 : 0 ≤ c) (n1 : c ≤ 2147483647) (n2 : 0 ≤ n) (n3 : n ≤ 2147483647) :
    Calls Try.prog 84 #[vv r c b p, .int .i64 n] w fun e w' => e = .returned (vv r (min (c + n) 2147483647) b p) ∧ Below w.heap.size w w' := by
  by_cases h : 2147483647 < c + n
  · have hm : min (c + n) 2147483647 = 2147483647 := by omega
    rw [hm]
    go_enter Try.func84, Try.ntmps84
    go_wp2_with fail
    refine bodyPost_ret (v := vv r 2147483647 b p) (by simp [results, Try.results84, go_sem]) rfl ⟨rfl, ?_⟩
    exact ((Below.refl _ _).alloc (Nat.le_refl _) _).alloc (by simp) _
  · have hm : min (c + n) 2147483647 = c + n := by omega
    rw [hm]
    go_enter Try.func84, Try.ntmps84
    go_wp2_with fail
    refine bodyPost_ret (v := vv r (c + n) b p) (by simp [results, Try.results84, go_sem]) rfl ⟨rfl, ?_⟩
    exact ((Below.refl _ _).alloc (Nat.le_refl _) _).alloc (by simp) _
set_option maxHeartbeats 16000000 in
theorem r_way {s : S} {AC : Option Addr} {cC : Nat} {AU : Option Addr} {cU : Nat} {AI : Option Addr} {cI : Nat} {w : World} (hS : SelfR w s AC cC AU cU AI cI) {p : Nat} (hp : p < s.costs.length) (hpi : p < s.infos.length) (h0 : 0 ≤ (s.info p).v.c ∧ (s.info p).v.c ≤ 2147483647 ∧ 1 ≤ s.cost p ∧ s.cost p ≤ 1000) (hl : s.costs.length ≤ 1000 ∧ s.infos.length ≤ 1000) :
    Calls Try.prog 80 #[selfV s.id (.slice AC s.costs.length cC) (.slice AU s.ups.length cU) (.slice AI s.infos.length cI), .int .i64 p] w fun e w' => e = .returned (s.way p).val ∧ Below w.heap.size w w' := by
  obtain ⟨w0, hw0⟩ : ∃ W, W = (w.alloc (.cells #[.int .i64 s.id, .slice AC s.costs.length cC, .slice AU s.ups.length cU, .slice AI s.infos.length cI] 26)).alloc (.cells #[.int .i64 0, .int .i64 0, .int .i64 0, .int .i64 0] 31) := ⟨_, rfl⟩
  have I := Lib.hid (show InS w w0 s AC cC AU cU AI cI by rw [hw0]; exact (InS.new hS).below ((Below.refl _ _).alloc (Nat.le_refl _) _))
  have X := Lib.hid (show Bx w0 (w.heap.size + 1) 31 #[.int .i64 0, .int .i64 0, .int .i64 0, .int .i64 0] by rw [hw0]; exact Bx.new _ _ _ (by simp))
  obtain ⟨y0, y1, y2, y3, hyl⟩ := I.out.cells
  obtain ⟨hl1, hl2⟩ := hl
  obtain ⟨bC, oC, rfl, hbC, qC⟩ := IntP.SlI.at_ I.out.r.costs.sl (cost_at hp)
  obtain ⟨bI, oI, rfl, hbI, q0, q1, q2, q3, q4, q5⟩ := SlN.at_ I.out.r.infos.sl (info_at (s := s) (p := p) hpi)
  have hF := Lib.hid (fun W => ref_far (s.info p).v.r (s.info p).v.c (s.info p).v.b (s.info p).v.p (s.cost p) W h0.1 h0.2.1 (by omega) (by omega))
  have hw : (s.way p).val = vv (s.info p).v.r (min ((s.info p).v.c + s.cost p) 2147483647) (s.info p).v.b (s.info p).v.p := rfl
  rw [hw]
  clear hw hS h0
  generalize s.info p = x at *
  generalize s.cost p = n at *
  generalize min (x.v.c + n) 2147483647 = m at *
  go_enter Try.func80, Try.ntmps80
  go_wp2_with fail
  rw [← hw0]
  clear hw0
  go_region_with ((go_at_call 84; (with_reducible refine (hF.out _).mono ?_); rintro e w1 ⟨rfl, hb1⟩; have b1 := Lib.hid (bt (show Below w0.heap.size w0 w0.drew from (Below.refl _ _).drew) hb1); have X1 := Lib.hid (X.out.below b1.out); have B1 := Lib.hid (bt I.out.b b1.out); obtain ⟨z0, z1, z2, z3⟩ := Bx.four X1.out; have f0 := X1.out.f 0; have f1 := X1.out.f 1; have f2 := X1.out.f 2; have f3 := X1.out.f 3; have hzl := X1.out.lt; clear hb1 b1))
  all_goals
    go_wp2_with fail
    refine bodyPost_ret (v := vv x.v.r m x.v.b x.v.p) (by simp [results, Try.results80, go_sem, z0, z1, z2, z3]) rfl ⟨rfl, ?_⟩
    exact below4 B1.out (by omega) _ _ _ _
end Go.Proofs.Ytidoaccidmmalaa.RoleP
