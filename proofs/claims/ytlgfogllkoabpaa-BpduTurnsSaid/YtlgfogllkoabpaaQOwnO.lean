/-
  A config as it comes in.
-/
import Derived.Test.YtlgfogllkoabpaaQOwnG
import Derived.OpenShut
import Derived.WideShapes
import Derived.Deep.Slices
import Derived.Carry
import Derived.Lib.SmallJoins
namespace Go.Proofs.Ytlgfogllkoabpaa.QMacP
open Go.RowKit Go.Sort Go.ChangeShapes Go.WideShapes Go.Deep
set_option linter.unusedVariables false
set_option linter.unusedSimpArgs false
set_option maxRecDepth 100000

section
variable {H : Type} {enc : TypeId × Value → H} {w : World} {base : Nat} {spare : Nat → Bool} {held : Bool}
theorem cells_int : Try.prog.cellsOf 3 = 1 := by kernel_rfl
theorem cells_vec : Try.prog.cellsOf 23 = 4 := by kernel_rfl
theorem cells_cfg : Try.prog.cellsOf 25 = 5 := by kernel_rfl
theorem open_vec {n : Nat} {cs : List Value} {x : DataW H × List MemPlace} (h : DataW.trod enc Try.prog w base spare held n 23 cs = some x) : ∃ r c b p, cs = [.int .i64 r, .int .i64 c, .int .i64 b, .int .i64 p] := by
  obtain ⟨xs, m, _, _, hlen, hxl, hg⟩ := DataW.trod_struct Try.underlying23 h
  rw [cells_vec] at hlen
  have hxl : xs.length = 4 := hxl
  have g0 : DataW.trod enc Try.prog w base spare held m 3 ((cs.drop 0).take 1) = xs[0]? := (congrArg (fun n => DataW.trod enc Try.prog w base spare held m 3 ((cs.drop 0).take n)) cells_int).symm.trans (hg 0 _ rfl)
  have g1 : DataW.trod enc Try.prog w base spare held m 3 ((cs.drop 1).take 1) = xs[1]? := (congrArg (fun n => DataW.trod enc Try.prog w base spare held m 3 ((cs.drop 1).take n)) cells_int).symm.trans (hg 1 _ rfl)
  have g2 : DataW.trod enc Try.prog w base spare held m 3 ((cs.drop 2).take 1) = xs[2]? := (congrArg (fun n => DataW.trod enc Try.prog w base spare held m 3 ((cs.drop 2).take n)) cells_int).symm.trans (hg 2 _ rfl)
  have g3 : DataW.trod enc Try.prog w base spare held m 3 ((cs.drop 3).take 1) = xs[3]? := (congrArg (fun n => DataW.trod enc Try.prog w base spare held m 3 ((cs.drop 3).take n)) cells_int).symm.trans (hg 3 _ rfl)
  match cs, hlen, xs, hxl with
  | [c0, c1, c2, c3], _, [y0, y1, y2, y3], _ =>
    obtain ⟨r, h0, _, _⟩ := DataW.trod_int Try.underlying3 g0
    obtain ⟨c, h1, _, _⟩ := DataW.trod_int Try.underlying3 g1
    obtain ⟨b, h2, _, _⟩ := DataW.trod_int Try.underlying3 g2
    obtain ⟨p, h3, _, _⟩ := DataW.trod_int Try.underlying3 g3
    simp only [List.drop_zero, List.drop_succ_cons, List.take_succ_cons, List.take_zero, List.cons.injEq, and_true] at h0 h1 h2 h3
    subst h0; subst h1; subst h2; subst h3
    exact ⟨r, c, b, p, rfl⟩
def InCfg (v : Value) : Prop := ∃ r c b p a, v = cv r c b p a
theorem cfg_cells {n : Nat} {cs : List Value} {x : DataW H × List MemPlace} (h : DataW.trod enc Try.prog w base spare held n 25 cs = some x) : ∃ r c b p a, cs = [.int .i64 r, .int .i64 c, .int .i64 b, .int .i64 p, .int .i64 a] := by
  obtain ⟨xs, m, _, _, hlen, hxl, hg⟩ := DataW.trod_struct Try.underlying25 h
  rw [cells_cfg] at hlen
  have hxl : xs.length = 2 := hxl
  have g1 : DataW.trod enc Try.prog w base spare held m 23 ((cs.drop 0).take 4) = xs[0]? := (congrArg (fun n => DataW.trod enc Try.prog w base spare held m 23 ((cs.drop 0).take n)) cells_vec).symm.trans (hg 0 _ rfl)
  have g2 : DataW.trod enc Try.prog w base spare held m 3 ((cs.drop 4).take 1) = xs[1]? := (congrArg (fun n => DataW.trod enc Try.prog w base spare held m 3 ((cs.drop 4).take n)) cells_int).symm.trans (hg 1 _ rfl)
  match cs, hlen, xs, hxl with
  | [c0, c1, c2, c3, c4], _, [y0, y1], _ =>
    obtain ⟨r, c, b, p, h1⟩ := open_vec g1
    obtain ⟨a, h2, _, _⟩ := DataW.trod_int Try.underlying3 g2
    simp only [List.drop_zero, List.drop_succ_cons, List.take_succ_cons, List.take_zero, List.cons.injEq, and_true] at h1 h2
    obtain ⟨q0, q1, q2, q3⟩ := h1
    subst q0; subst q1; subst q2; subst q3; subst h2
    exact ⟨r, c, b, p, a, rfl⟩
theorem open_cfg {r' : World} {v : Value} {d : DataW H} {p : List MemPlace} {r : Reach} {b0 : Nat} (hv : Value.okWide Try.prog r' r b0 25 v) (h : DataW.Trod enc Try.prog w base (fun _ => true) held 25 v d p) : InCfg v := by
  obtain ⟨cs, rfl, hsz⟩ := okWide_struct Try.underlying25 hv
  obtain ⟨fuel, hf⟩ := h
  obtain ⟨r, c, b, p, a, hcs⟩ := cfg_cells hf
  refine ⟨r, c, b, p, a, ?_⟩
  have e : cs.toList = [.int .i64 r, .int .i64 c, .int .i64 b, .int .i64 p, .int .i64 a] := by simpa [Value.cells] using hcs
  obtain ⟨l⟩ := cs
  simp only at e
  rw [e]
end
end Go.Proofs.Ytlgfogllkoabpaa.QMacP
