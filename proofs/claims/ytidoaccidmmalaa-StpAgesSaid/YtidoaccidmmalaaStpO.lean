/-
  A tree, and a config, as they come in.
-/
import Derived.Test.YtidoaccidmmalaaStpA
import Derived.Test.YtidoaccidmmalaaRoleO
import Derived.OpenShut
import Derived.WideShapes
import Derived.Deep.Slices
import Derived.Carry
import Derived.Lib.SmallJoins
namespace Go.Proofs.Ytidoaccidmmalaa.StpP
open Go.RowKit Go.Sort Go.Proofs.Ytidoaccidmmalaa.SliceP Go.Proofs.Ytidoaccidmmalaa.BoxP Go.Proofs.Ytidoaccidmmalaa.VecP Go.Proofs.Ytidoaccidmmalaa.RoleP Go.ChangeShapes Go.WideShapes Go.Deep
open Go.Proofs.Ytidoaccidmmalaa.IntP (RowI SlI OwnI)
open Go.Proofs.Ytidoaccidmmalaa.BoolP (RowB SlB)
set_option linter.unusedVariables false
set_option maxRecDepth 100000
section
variable {H : Type} {enc : TypeId × Value → H} {w : World} {base : Nat} {spare : Nat → Bool} {held : Bool}
theorem cells_sl1 : Try.prog.cellsOf 22 = 1 := by kernel_rfl
theorem cells_sl2 : Try.prog.cellsOf 23 = 1 := by kernel_rfl
theorem cells_sl3 : Try.prog.cellsOf 24 = 1 := by kernel_rfl
theorem cells_sl4 : Try.prog.cellsOf 27 = 1 := by kernel_rfl
theorem cells_self : Try.prog.cellsOf 26 = 4 := by kernel_rfl
theorem cells_stp : Try.prog.cellsOf 29 = 7 := by kernel_rfl
theorem cells_ps : Try.prog.cellsOf 80 = 2 := by kernel_rfl
theorem cells_cfg : Try.prog.cellsOf 33 = 5 := by kernel_rfl
theorem ps_cells {n : Nat} {cs : List Value} {x : DataW H × List MemPlace} (h : DataW.trod enc Try.prog w base spare held n 80 cs = some x) : ∃ y : Int × Int, cs = sc y := by
  obtain ⟨xs, m, _, _, hlen, hxl, hg⟩ := DataW.trod_struct Try.underlying80 h
  rw [cells_ps] at hlen
  have hxl : xs.length = 2 := hxl
  have g0 : DataW.trod enc Try.prog w base spare held m 3 ((cs.drop 0).take 1) = xs[0]? := (congrArg (fun n => DataW.trod enc Try.prog w base spare held m 3 ((cs.drop 0).take n)) cells_int).symm.trans (hg 0 _ rfl)
  have g1 : DataW.trod enc Try.prog w base spare held m 3 ((cs.drop 1).take 1) = xs[1]? := (congrArg (fun n => DataW.trod enc Try.prog w base spare held m 3 ((cs.drop 1).take n)) cells_int).symm.trans (hg 1 _ rfl)
  match cs, hlen, xs, hxl with
  | [c0, c1], _, [y0, y1], _ =>
    obtain ⟨r, h0, _, _⟩ := DataW.trod_int Try.underlying3 g0
    obtain ⟨c, h1, _, _⟩ := DataW.trod_int Try.underlying3 g1
    simp only [List.drop_zero, List.drop_succ_cons, List.take_succ_cons, List.take_zero, List.cons.injEq, and_true] at h0 h1
    subst h0; subst h1
    exact ⟨(r, c), rfl⟩
/-- What is known of a tree that comes in. -/
structure InP (w : World) (t : T) (AC : Option Addr) (cC : Nat) (AU : Option Addr) (cU : Nat) (AI : Option Addr) (cI : Nat) (AS : Option Addr) (cS : Nat) : Prop where
  r : TreeR w t AC cC AU cU AI cI AS cS
  k1 : cC ≤ 9223372036854775807
  k2 : cU ≤ 9223372036854775807
  k3 : cI ≤ 9223372036854775807
  k4 : cS ≤ 9223372036854775807
def InTree (w : World) (v : Value) : Prop := ∃ (t : T) (AC : Option Addr) (cC : Nat) (AU : Option Addr) (cU : Nat) (AI : Option Addr) (cI : Nat) (AS : Option Addr) (cS : Nat), v = tv t AC cC AU cU AI cI AS cS ∧ InP w t AC cC AU cU AI cI AS cS
instance : Inhabited (Int × Int) := ⟨(0, 0)⟩
theorem self_cells {n : Nat} {cs : List Value} {x : DataW H × List MemPlace} (h : DataW.trod enc Try.prog w base (fun _ => true) held n 26 cs = some x) :
    ∃ (s : S) (AC : Option Addr) (cC : Nat) (AU : Option Addr) (cU : Nat) (AI : Option Addr) (cI : Nat), cs = [.int .i64 s.id, .slice AC s.costs.length cC, .slice AU s.ups.length cU, .slice AI s.infos.length cI] ∧ SelfR w s AC cC AU cU AI cI ∧ cC ≤ 9223372036854775807 ∧ cU ≤ 9223372036854775807 ∧ cI ≤ 9223372036854775807 := by
  obtain ⟨xs, m, _, _, hlen, hxl, hg⟩ := DataW.trod_struct Try.underlying26 h
  rw [cells_self] at hlen
  have hxl : xs.length = 4 := hxl
  have g0 : DataW.trod enc Try.prog w base (fun _ => true) held m 3 ((cs.drop 0).take 1) = xs[0]? := (congrArg (fun n => DataW.trod enc Try.prog w base (fun _ => true) held m 3 ((cs.drop 0).take n)) cells_int).symm.trans (hg 0 _ rfl)
  have g1 : DataW.trod enc Try.prog w base (fun _ => true) held m 22 ((cs.drop 1).take 1) = xs[1]? := (congrArg (fun n => DataW.trod enc Try.prog w base (fun _ => true) held m 22 ((cs.drop 1).take n)) cells_sl1).symm.trans (hg 1 _ rfl)
  have g2 : DataW.trod enc Try.prog w base (fun _ => true) held m 23 ((cs.drop 2).take 1) = xs[2]? := (congrArg (fun n => DataW.trod enc Try.prog w base (fun _ => true) held m 23 ((cs.drop 2).take n)) cells_sl2).symm.trans (hg 2 _ rfl)
  have g3 : DataW.trod enc Try.prog w base (fun _ => true) held m 24 ((cs.drop 3).take 1) = xs[3]? := (congrArg (fun n => DataW.trod enc Try.prog w base (fun _ => true) held m 24 ((cs.drop 3).take n)) cells_sl3).symm.trans (hg 3 _ rfl)
  match cs, hlen, xs, hxl with
  | [c0, c1, c2, c3], _, [y0, y1, y2, y3], _ =>
    obtain ⟨id, h0, _, _⟩ := DataW.trod_int Try.underlying3 g0
    obtain ⟨AC, cC, costs, e1, s1, l1, n1, m1⟩ := open_sl (fun x : Int => [Value.int .i64 x]) 1 Try.underlying22 cells_int (fun _ => rfl) (by decide) (fun h => by obtain ⟨y, hy, _⟩ := DataW.trod_int Try.underlying3 h; exact ⟨y, hy⟩) g1
    obtain ⟨AU, cU, ups, e2, s2, l2, n2, m2⟩ := open_sl (fun x : Bool => [Value.bool x]) 1 Try.underlying23 cells_bool1 (fun _ => rfl) (by decide) (fun h => by obtain ⟨y, hy, _⟩ := DataW.trod_bool Try.underlying4 h; exact ⟨y, hy⟩) g2
    obtain ⟨AI, cI, infos, e3, s3, l3, n3, m3⟩ := open_sl N.cells 6 Try.underlying24 cells_info (fun _ => rfl) (by decide) (fun h => open_info h) g3
    simp only [List.drop_zero, List.drop_succ_cons, List.take_succ_cons, List.take_zero, List.cons.injEq, and_true] at h0 e1 e2 e3
    subst h0; subst e1; subst e2; subst e3
    exact ⟨⟨id, costs, ups, infos⟩, AC, cC, AU, cU, AI, cI, rfl, ⟨⟨rfl, s1, l1, n1⟩, ⟨rfl, s2, l2, n2⟩, ⟨rfl, s3, l3, n3⟩⟩, m1, m2, m3⟩
theorem tree_cells {n : Nat} {cs : List Value} {x : DataW H × List MemPlace} (h : DataW.trod enc Try.prog w base (fun _ => true) held n 29 cs = some x) :
    ∃ (t : T) (AC : Option Addr) (cC : Nat) (AU : Option Addr) (cU : Nat) (AI : Option Addr) (cI : Nat) (AS : Option Addr) (cS : Nat), cs = [.int .i64 t.self.id, .slice AC t.self.costs.length cC, .slice AU t.self.ups.length cU, .slice AI t.self.infos.length cI, .slice AS t.states.length cS, .int .i64 t.mx, .int .i64 t.dl] ∧ InP w t AC cC AU cU AI cI AS cS := by
  obtain ⟨xs, m, _, _, hlen, hxl, hg⟩ := DataW.trod_struct Try.underlying29 h
  rw [cells_stp] at hlen
  have hxl : xs.length = 4 := hxl
  have g0 : DataW.trod enc Try.prog w base (fun _ => true) held m 26 ((cs.drop 0).take 4) = xs[0]? := (congrArg (fun n => DataW.trod enc Try.prog w base (fun _ => true) held m 26 ((cs.drop 0).take n)) cells_self).symm.trans (hg 0 _ rfl)
  have g1 : DataW.trod enc Try.prog w base (fun _ => true) held m 27 ((cs.drop 4).take 1) = xs[1]? := (congrArg (fun n => DataW.trod enc Try.prog w base (fun _ => true) held m 27 ((cs.drop 4).take n)) cells_sl4).symm.trans (hg 1 _ rfl)
  have g2 : DataW.trod enc Try.prog w base (fun _ => true) held m 3 ((cs.drop 5).take 1) = xs[2]? := (congrArg (fun n => DataW.trod enc Try.prog w base (fun _ => true) held m 3 ((cs.drop 5).take n)) cells_int).symm.trans (hg 2 _ rfl)
  have g3 : DataW.trod enc Try.prog w base (fun _ => true) held m 3 ((cs.drop 6).take 1) = xs[3]? := (congrArg (fun n => DataW.trod enc Try.prog w base (fun _ => true) held m 3 ((cs.drop 6).take n)) cells_int).symm.trans (hg 3 _ rfl)
  match cs, hlen, xs, hxl with
  | [c0, c1, c2, c3, c4, c5, c6], _, [y0, y1, y2, y3], _ =>
    obtain ⟨s, AC, cC, AU, cU, AI, cI, h0, hs, m1, m2, m3⟩ := self_cells g0
    obtain ⟨AS, cS, sts, e1, s1, l1, n1, m4⟩ := open_sl sc 2 Try.underlying27 cells_ps (fun _ => rfl) (by decide) (fun h => ps_cells h) g1
    obtain ⟨mx, h2, _, _⟩ := DataW.trod_int Try.underlying3 g2
    obtain ⟨dl, h3, _, _⟩ := DataW.trod_int Try.underlying3 g3
    simp only [List.drop_zero, List.drop_succ_cons, List.take_succ_cons, List.take_zero, List.cons.injEq, and_true] at h0 e1 h2 h3
    obtain ⟨q0, q1, q2, q3⟩ := h0
    subst q0; subst q1; subst q2; subst q3; subst e1; subst h2; subst h3
    exact ⟨⟨s, sts, mx, dl⟩, AC, cC, AU, cU, AI, cI, AS, cS, rfl, ⟨⟨hs, ⟨rfl, s1, l1, n1⟩⟩, m1, m2, m3, m4⟩⟩
theorem open_tree {r' : World} {v : Value} {d : DataW H} {p : List MemPlace} {r : Reach} {b0 : Nat} (hv : Value.okWide Try.prog r' r b0 29 v) (h : DataW.Trod enc Try.prog w base (fun _ => true) held 29 v d p) : InTree w v := by
  obtain ⟨cs, rfl, hsz⟩ := okWide_struct Try.underlying29 hv
  obtain ⟨fuel, hf⟩ := h
  obtain ⟨t, AC, cC, AU, cU, AI, cI, AS, cS, hcs, hin⟩ := tree_cells hf
  refine ⟨t, AC, cC, AU, cU, AI, cI, AS, cS, ?_, hin⟩
  have e : cs.toList = [.int .i64 t.self.id, .slice AC t.self.costs.length cC, .slice AU t.self.ups.length cU, .slice AI t.self.infos.length cI, .slice AS t.states.length cS, .int .i64 t.mx, .int .i64 t.dl] := by simpa [Value.cells] using hcs
  obtain ⟨l⟩ := cs
  simp only at e
  rw [e]
def InCfg (v : Value) : Prop := ∃ (x : V) (a : Int), v = .agg #[.int .i64 x.r, .int .i64 x.c, .int .i64 x.b, .int .i64 x.p, .int .i64 a]
theorem cfg_cells {n : Nat} {cs : List Value} {x : DataW H × List MemPlace} (h : DataW.trod enc Try.prog w base spare held n 33 cs = some x) : ∃ (v : V) (a : Int), cs = [.int .i64 v.r, .int .i64 v.c, .int .i64 v.b, .int .i64 v.p, .int .i64 a] := by
  obtain ⟨xs, m, _, _, hlen, hxl, hg⟩ := DataW.trod_struct Try.underlying33 h
  rw [cells_cfg] at hlen
  have hxl : xs.length = 2 := hxl
  have g1 : DataW.trod enc Try.prog w base spare held m 31 ((cs.drop 0).take 4) = xs[0]? := (congrArg (fun n => DataW.trod enc Try.prog w base spare held m 31 ((cs.drop 0).take n)) cells_vec).symm.trans (hg 0 _ rfl)
  have g2 : DataW.trod enc Try.prog w base spare held m 3 ((cs.drop 4).take 1) = xs[1]? := (congrArg (fun n => DataW.trod enc Try.prog w base spare held m 3 ((cs.drop 4).take n)) cells_int).symm.trans (hg 1 _ rfl)
  match cs, hlen, xs, hxl with
  | [c0, c1, c2, c3, c4], _, [y0, y1], _ =>
    obtain ⟨v, h1⟩ := open_vec g1
    obtain ⟨a, h2, _, _⟩ := DataW.trod_int Try.underlying3 g2
    unfold V.cells at h1
    simp only [List.drop_zero, List.drop_succ_cons, List.take_succ_cons, List.take_zero, List.cons.injEq, and_true] at h1 h2
    obtain ⟨q0, q1, q2, q3⟩ := h1
    subst q0; subst q1; subst q2; subst q3; subst h2
    exact ⟨v, a, rfl⟩
theorem open_cfg {r' : World} {v : Value} {d : DataW H} {p : List MemPlace} {r : Reach} {b0 : Nat} (hv : Value.okWide Try.prog r' r b0 33 v) (h : DataW.Trod enc Try.prog w base (fun _ => true) held 33 v d p) : InCfg v := by
  obtain ⟨cs, rfl, hsz⟩ := okWide_struct Try.underlying33 hv
  obtain ⟨fuel, hf⟩ := h
  obtain ⟨x, a, hcs⟩ := cfg_cells hf
  refine ⟨x, a, ?_⟩
  have e : cs.toList = [.int .i64 x.r, .int .i64 x.c, .int .i64 x.b, .int .i64 x.p, .int .i64 a] := by simpa [Value.cells] using hcs
  obtain ⟨l⟩ := cs
  simp only at e
  rw [e]
end
end Go.Proofs.Ytidoaccidmmalaa.StpP
