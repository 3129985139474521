/-
  A bridge as it comes in.
-/
import Derived.Test.YtidoaccidmmalaaRoleA
import Derived.OpenShut
import Derived.WideShapes
import Derived.Deep.Slices
import Derived.Carry
import Derived.Lib.SmallJoins
namespace Go.Proofs.Ytidoaccidmmalaa.RoleP
open Go.RowKit Go.Sort Go.Proofs.Ytidoaccidmmalaa.SliceP Go.Proofs.Ytidoaccidmmalaa.BoxP Go.Proofs.Ytidoaccidmmalaa.VecP Go.ChangeShapes Go.WideShapes Go.Deep
open Go.Proofs.Ytidoaccidmmalaa.IntP (RowI SlI OwnI)
open Go.Proofs.Ytidoaccidmmalaa.BoolP (RowB SlB)
set_option linter.unusedVariables false
set_option maxRecDepth 100000

section
variable {H : Type} {enc : TypeId × Value → H} {w : World} {base : Nat} {spare : Nat → Bool} {held : Bool}
/-- Any slice that comes in, by what opens its elements. -/
theorem open_sl {α : Type} [Inhabited α] (cells : α → List Value) (sz : Nat) {t e : TypeId} (ht : Try.prog.underlying t = some (.slice e)) (hsz : Try.prog.cellsOf e = sz) (hlen : ∀ y, (cells y).length = sz) (h0 : 0 < sz)
    (op : ∀ {n : Nat} {cs : List Value} {x : DataW H × List MemPlace}, DataW.trod enc Try.prog w base (fun _ => true) held n e cs = some x → ∃ y, cs = cells y)
    {n : Nat} {ws : List Value} {x : DataW H × List MemPlace} (h : DataW.trod enc Try.prog w base (fun _ => true) held n t ws = some x) :
    ∃ (A : Option Addr) (c : Nat) (l : List α), ws = [.slice A l.length c] ∧ Sl w sz A (l.map cells) ∧ l.length ≤ c ∧ (A = none → c = 0) ∧ c ≤ 9223372036854775807 := by
  rcases open_slice ht h with ⟨hcs, _⟩ | ⟨a, len, cap', m, n, D, Pl, hcs, hb, hl, hm, hmm, _, hi⟩
  · exact ⟨none, 0, [], hcs, Sl.nil, by simp, fun _ => rfl, by omega⟩
  simp only [if_true] at hmm
  subst hmm
  rw [hsz] at hi
  have hx : ∀ i, ∃ y : α, i < len → ∀ j u, (cells y)[j]? = some u → w.cell? ((a.add (i * sz)).add j) = some u := fun i => by
    by_cases hlt : i < len
    · obtain ⟨cs, hc, ht⟩ := hi i (by omega)
      obtain ⟨y, rfl⟩ := op ht
      obtain ⟨_, _, hat⟩ := World.cells?_some hc
      exact ⟨y, fun _ j u hj => (hat j (by have := (List.getElem?_eq_some_iff.1 hj).1; have := hlen y; omega)).trans hj⟩
    · exact ⟨default, fun h => absurd h hlt⟩
  refine ⟨some a, m, (List.range len).map fun i => Classical.choose (hx i), by simpa using hcs, fun hn => ?_, by simpa using hl, fun e => (by cases e), hm⟩
  have hpos : 0 < len := by
    rcases Nat.eq_zero_or_pos len with h0 | h0
    · subst h0; exact absurd rfl hn
    · exact h0
  obtain ⟨b, o, spot⟩ := a
  have hget : ∃ u, (cells (Classical.choose (hx 0)))[0]? = some u := ⟨_, List.getElem?_eq_getElem (by rw [hlen]; exact h0)⟩
  obtain ⟨u0, hu0⟩ := hget
  have h0' := Classical.choose_spec (hx 0) hpos 0 _ hu0
  have hspot : spot = none := by simpa [Addr.add] using World.cell?_spot h0'
  subst hspot
  have hadd : ∀ i j, ((⟨b, o, none⟩ : Addr).add i).add j = ⟨b, o + i + j, none⟩ := fun i j => by
    unfold Addr.add
    by_cases h1 : i = 0 <;> by_cases h2 : j = 0 <;> simp [h1, h2]
  have hbw : b < w.heap.size := by
    have := h0'
    rw [hadd] at this
    exact block_lt_of_cell this
  refine ⟨b, o, rfl, hbw, fun k cs hk j u hj => ?_⟩
  rw [List.getElem?_map, List.getElem?_map] at hk
  obtain ⟨y, hy, rfl⟩ := Option.map_eq_some_iff.1 hk
  obtain ⟨i, hi', rfl⟩ := Option.map_eq_some_iff.1 hy
  have hkl : k < len := by simpa using (List.getElem?_eq_some_iff.1 hi').1
  obtain rfl : k = i := by
    rw [List.getElem?_range hkl] at hi'; injection hi'
  have := Classical.choose_spec (hx k) hkl j u hj
  rw [hadd] at this
  exact this
theorem cells_int : Try.prog.cellsOf 3 = 1 := by kernel_rfl
theorem cells_vec : Try.prog.cellsOf 31 = 4 := by kernel_rfl
/-- Four cells that read as a vec. -/
theorem open_vec {n : Nat} {cs : List Value} {x : DataW H × List MemPlace} (h : DataW.trod enc Try.prog w base spare held n 31 cs = some x) : ∃ y : V, cs = y.cells := by
  obtain ⟨xs, m, _, _, hlen, hxl, hg⟩ := DataW.trod_struct Try.underlying31 h
  rw [cells_vec] at hlen
  have hxl : xs.length = 4 := hxl
  have g0 : DataW.trod enc Try.prog w base spare held m 3 ((cs.drop 0).take 1) = xs[0]? := (congrArg (fun n => DataW.trod enc Try.prog w base spare held m 3 ((cs.drop 0).take n)) cells_int).symm.trans (hg 0 _ rfl)
  have g1 : DataW.trod enc Try.prog w base spare held m 3 ((cs.drop 1).take 1) = xs[1]? := (congrArg (fun n => DataW.trod enc Try.prog w base spare held m 3 ((cs.drop 1).take n)) cells_int).symm.trans (hg 1 _ rfl)
  have g2 : DataW.trod enc Try.prog w base spare held m 3 ((cs.drop 2).take 1) = xs[2]? := (congrArg (fun n => DataW.trod enc Try.prog w base spare held m 3 ((cs.drop 2).take n)) cells_int).symm.trans (hg 2 _ rfl)
  have g3 : DataW.trod enc Try.prog w base spare held m 3 ((cs.drop 3).take 1) = xs[3]? := (congrArg (fun n => DataW.trod enc Try.prog w base spare held m 3 ((cs.drop 3).take n)) cells_int).symm.trans (hg 3 _ rfl)
  match cs, hlen, xs, hxl with
  | [c0, c1, c2, c3], _, [y0, y1, y2, y3], _ =>
    obtain ⟨r, h0, _, _⟩ := DataW.trod_int Try.underlying3 g0
    obtain ⟨c, h1, _, _⟩ := DataW.trod_int Try.underlying3 g1
    obtain ⟨b, h2, _, _⟩ := DataW.trod_int Try.underlying3 g2
    obtain ⟨p, h3, _, _⟩ := DataW.trod_int Try.underlying3 g3
    simp only [List.drop_zero, List.drop_succ_cons, List.take_succ_cons, List.take_zero, List.cons.injEq, and_true] at h0 h1 h2 h3
    subst h0; subst h1; subst h2; subst h3
    exact ⟨⟨r, c, b, p⟩, rfl⟩
theorem cells_info : Try.prog.cellsOf 66 = 6 := by kernel_rfl
theorem cells_bool1 : Try.prog.cellsOf 4 = 1 := by kernel_rfl
/-- Six cells that read as an info. -/
theorem open_info {n : Nat} {cs : List Value} {x : DataW H × List MemPlace} (h : DataW.trod enc Try.prog w base spare held n 66 cs = some x) : ∃ y : N, cs = y.cells := by
  obtain ⟨xs, m, _, _, hlen, hxl, hg⟩ := DataW.trod_struct Try.underlying66 h
  rw [cells_info] at hlen
  have hxl : xs.length = 3 := hxl
  have g0 : DataW.trod enc Try.prog w base spare held m 4 ((cs.drop 0).take 1) = xs[0]? := (congrArg (fun n => DataW.trod enc Try.prog w base spare held m 4 ((cs.drop 0).take n)) cells_bool1).symm.trans (hg 0 _ rfl)
  have g1 : DataW.trod enc Try.prog w base spare held m 31 ((cs.drop 1).take 4) = xs[1]? := (congrArg (fun n => DataW.trod enc Try.prog w base spare held m 31 ((cs.drop 1).take n)) cells_vec).symm.trans (hg 1 _ rfl)
  have g2 : DataW.trod enc Try.prog w base spare held m 3 ((cs.drop 5).take 1) = xs[2]? := (congrArg (fun n => DataW.trod enc Try.prog w base spare held m 3 ((cs.drop 5).take n)) cells_int).symm.trans (hg 2 _ rfl)
  match cs, hlen, xs, hxl with
  | [c0, c1, c2, c3, c4, c5], _, [y0, y1, y2], _ =>
    obtain ⟨hb, h0, _⟩ := DataW.trod_bool Try.underlying4 g0
    obtain ⟨v, h1⟩ := open_vec g1
    obtain ⟨a, h2, _, _⟩ := DataW.trod_int Try.underlying3 g2
    unfold V.cells at h1
    simp only [List.drop_zero, List.drop_succ_cons, List.take_succ_cons, List.take_zero, List.cons.injEq, and_true] at h0 h1 h2
    obtain ⟨q0, q1, q2, q3⟩ := h1
    subst h0; subst q0; subst q1; subst q2; subst q3; subst h2
    exact ⟨⟨hb, v, a⟩, rfl⟩
instance : Inhabited N := ⟨N0⟩
/-- A bridge that comes in. -/
def InSelf (w : World) (v : Value) : Prop := ∃ (s : S) (AC : Option Addr) (cC : Nat) (AU : Option Addr) (cU : Nat) (AI : Option Addr) (cI : Nat), v = selfV s.id (.slice AC s.costs.length cC) (.slice AU s.ups.length cU) (.slice AI s.infos.length cI) ∧ SelfR w s AC cC AU cU AI cI ∧ cC ≤ 9223372036854775807 ∧ cU ≤ 9223372036854775807 ∧ cI ≤ 9223372036854775807
theorem open_self {v : Value} {d : DataW H} {p : List MemPlace} {r : Reach} {b0 : Nat} (hv : Value.okWide Try.prog w r b0 26 v) (h : DataW.Trod enc Try.prog w base (fun _ => true) held 26 v d p) :
    InSelf w v := by
  obtain ⟨v0, v1, v2, v3, y0, y1, y2, y3, n, rfl, _, _, h0, h1, h2, h3⟩ := Joins.open_agg4 Try.underlying26 (by kernel_rfl) (by kernel_rfl) hv h
  obtain ⟨id, hs, _⟩ := DataW.trod_int Try.underlying3 h0
  obtain ⟨AC, cC, costs, e1, s1, l1, n1, m1⟩ := open_sl (fun x : Int => [Value.int .i64 x]) 1 Try.underlying22 cells_int (fun _ => rfl) (by decide) (fun h => by obtain ⟨y, hy, _⟩ := DataW.trod_int Try.underlying3 h; exact ⟨y, hy⟩) h1
  obtain ⟨AU, cU, ups, e2, s2, l2, n2, m2⟩ := open_sl (fun x : Bool => [Value.bool x]) 1 Try.underlying23 cells_bool1 (fun _ => rfl) (by decide) (fun h => by obtain ⟨y, hy, _⟩ := DataW.trod_bool Try.underlying4 h; exact ⟨y, hy⟩) h2
  obtain ⟨AI, cI, infos, e3, s3, l3, n3, m3⟩ := open_sl N.cells 6 Try.underlying24 cells_info (fun _ => rfl) (by decide) (fun h => open_info h) h3
  obtain rfl := List.singleton_inj.1 hs
  obtain rfl := List.singleton_inj.1 e1
  obtain rfl := List.singleton_inj.1 e2
  obtain rfl := List.singleton_inj.1 e3
  exact ⟨⟨id, costs, ups, infos⟩, AC, cC, AU, cU, AI, cI, rfl, ⟨⟨rfl, s1, l1, n1⟩, ⟨rfl, s2, l2, n2⟩, ⟨rfl, s3, l3, n3⟩⟩, m1, m2, m3⟩
end
end Go.Proofs.Ytidoaccidmmalaa.RoleP
