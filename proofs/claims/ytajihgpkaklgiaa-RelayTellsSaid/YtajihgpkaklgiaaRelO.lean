/-
  A row of ports' states as it comes in.
-/
import Derived.Test.YtajihgpkaklgiaaRelA
import Derived.OpenShut
import Derived.WideShapes
import Derived.Deep.Slices
import Derived.Carry
import Derived.Lib.SmallJoins
namespace Go.Proofs.Ytajihgpkaklgiaa.RelP
open Go.RowKit Go.Sort Go.Proofs.Ytajihgpkaklgiaa.SliceP Go.Proofs.Ytajihgpkaklgiaa.BoxP Go.ChangeShapes Go.WideShapes Go.Deep
set_option linter.unusedVariables false
set_option maxRecDepth 100000
section
variable {H : Type} {enc : TypeId × Value → H} {w : World} {base : Nat} {spare : Nat → Bool} {held : Bool}
/-- Any slice that comes in, by what opens its elements. -/
theorem open_sl {α : Type} [Inhabited α] (cells : α → List Value) (sz : Nat) {t e : TypeId} (ht : Try.prog.underlying t = some (.slice e)) (hsz : Try.prog.cellsOf e = sz) (hlen : ∀ y, (cells y).length = sz) (h0 : 0 < sz)
    (op : ∀ {n : Nat} {cs : List Value} {x : DataW H × List MemPlace}, DataW.trod enc Try.prog w base (fun _ => true) held n e cs = some x → ∃ y, cs = cells y)
    {n : Nat} {ws : List Value} {x : DataW H × List MemPlace} (h : DataW.trod enc Try.prog w base (fun _ => true) held n t ws = some x) :
    ∃ (A : Option Addr) (c : Nat) (l : List α), ws = [.slice A l.length c] ∧ Sl w sz A (l.map cells) ∧ l.length ≤ c ∧ (A = none → c = 0) ∧ c ≤ 9223372036854775807 := by
  rcases open_slice ht h with ⟨hcs, _⟩ | ⟨a, len, cap', m, n, D, Pl, hcs, hb, hl, hm, hmm, _, hi⟩
  · exact ⟨none, 0, [], hcs, Sl.nil, by simp, fun _ => rfl, by omega⟩
  simp only [if_true] at hmm
  subst hmm
  rw [hsz] at hi
  have hx : ∀ i, ∃ y : α, i < len → ∀ j u, (cells y)[j]? = some u → w.cell? ((a.add (i * sz)).add j) = some u := fun i => by
    by_cases hlt : i < len
    · obtain ⟨cs, hc, ht⟩ := hi i (by omega)
      obtain ⟨y, rfl⟩ := op ht
      obtain ⟨_, _, hat⟩ := World.cells?_some hc
      exact ⟨y, fun _ j u hj => (hat j (by have := (List.getElem?_eq_some_iff.1 hj).1; have := hlen y; omega)).trans hj⟩
    · exact ⟨default, fun h => absurd h hlt⟩
  refine ⟨some a, m, (List.range len).map fun i => Classical.choose (hx i), by simpa using hcs, fun hn => ?_, by simpa using hl, fun e => (by cases e), hm⟩
  have hpos : 0 < len := by
    rcases Nat.eq_zero_or_pos len with h0 | h0
    · subst h0; exact absurd rfl hn
    · exact h0
  obtain ⟨b, o, spot⟩ := a
  have hget : ∃ u, (cells (Classical.choose (hx 0)))[0]? = some u := ⟨_, List.getElem?_eq_getElem (by rw [hlen]; exact h0)⟩
  obtain ⟨u0, hu0⟩ := hget
  have h0' := Classical.choose_spec (hx 0) hpos 0 _ hu0
  have hspot : spot = none := by simpa [Addr.add] using World.cell?_spot h0'
  subst hspot
  have hadd : ∀ i j, ((⟨b, o, none⟩ : Addr).add i).add j = ⟨b, o + i + j, none⟩ := fun i j => by
    unfold Addr.add
    by_cases h1 : i = 0 <;> by_cases h2 : j = 0 <;> simp [h1, h2]
  have hbw : b < w.heap.size := by
    have := h0'
    rw [hadd] at this
    exact block_lt_of_cell this
  refine ⟨b, o, rfl, hbw, fun k cs hk j u hj => ?_⟩
  rw [List.getElem?_map, List.getElem?_map] at hk
  obtain ⟨y, hy, rfl⟩ := Option.map_eq_some_iff.1 hk
  obtain ⟨i, hi', rfl⟩ := Option.map_eq_some_iff.1 hy
  have hkl : k < len := by simpa using (List.getElem?_eq_some_iff.1 hi').1
  obtain rfl : k = i := by
    rw [List.getElem?_range hkl] at hi'; injection hi'
  have := Classical.choose_spec (hx k) hkl j u hj
  rw [hadd] at this
  exact this
theorem cells_int : Try.prog.cellsOf 3 = 1 := by kernel_rfl
theorem cells_ps : Try.prog.cellsOf 36 = 2 := by kernel_rfl
theorem ps_cells {n : Nat} {cs : List Value} {x : DataW H × List MemPlace} (h : DataW.trod enc Try.prog w base spare held n 36 cs = some x) : ∃ y : Int × Int, cs = sc y := by
  obtain ⟨xs, m, _, _, hlen, hxl, hg⟩ := DataW.trod_struct Try.underlying36 h
  rw [cells_ps] at hlen
  have hxl : xs.length = 2 := hxl
  have g0 : DataW.trod enc Try.prog w base spare held m 3 ((cs.drop 0).take 1) = xs[0]? := (congrArg (fun n => DataW.trod enc Try.prog w base spare held m 3 ((cs.drop 0).take n)) cells_int).symm.trans (hg 0 _ rfl)
  have g1 : DataW.trod enc Try.prog w base spare held m 3 ((cs.drop 1).take 1) = xs[1]? := (congrArg (fun n => DataW.trod enc Try.prog w base spare held m 3 ((cs.drop 1).take n)) cells_int).symm.trans (hg 1 _ rfl)
  match cs, hlen, xs, hxl with
  | [c0, c1], _, [y0, y1], _ =>
    obtain ⟨r, h0, _, _⟩ := DataW.trod_int Try.underlying3 g0
    obtain ⟨c, h1, _, _⟩ := DataW.trod_int Try.underlying3 g1
    simp only [List.drop_zero, List.drop_succ_cons, List.take_succ_cons, List.take_zero, List.cons.injEq, and_true] at h0 h1
    subst h0; subst h1
    exact ⟨(r, c), rfl⟩
/-- A row of ports' states that comes in. -/
def InRow (w : World) (v : Value) : Prop := ∃ (A : Option Addr) (c : Nat) (l : List St), v = .slice A l.length c ∧ RowP w A l.length c l ∧ c ≤ 9223372036854775807
theorem open_states {v : Value} {d : DataW H} {p : List MemPlace} {r : Reach} {b0 : Nat} (hv : Value.okWide Try.prog w r b0 22 v) (h : DataW.Trod enc Try.prog w base (fun _ => true) held 22 v d p) :
    InRow w v := by
  obtain ⟨a0, len, cap, rfl⟩ := okWide_slice Try.underlying22 hv
  obtain ⟨fuel, hf⟩ := h
  obtain ⟨A, c, l, e, s, k, m, z⟩ := open_sl sc 2 Try.underlying22 cells_ps (fun _ => rfl) (by decide) (fun h => ps_cells h) hf
  simp [Value.cells] at e
  obtain ⟨rfl, rfl, rfl⟩ := e
  exact ⟨_, _, l, rfl, ⟨rfl, s, k, m⟩, z⟩
end
end Go.Proofs.Ytajihgpkaklgiaa.RelP
