/-
  A plan as it comes in.
-/
import Derived.Test.YtgcmklliafcffaaLanB
import Derived.OpenShut
import Derived.WideShapes
import Derived.Deep.Slices
import Derived.Carry
import Derived.Lib.SmallJoins
namespace Go.Proofs.Ytgcmklliafcffaa.LanP
open Go.RowKit Go.Sort Go.Proofs.Ytgcmklliafcffaa.SliceP Go.Proofs.Ytgcmklliafcffaa.BoxP Go.ChangeShapes Go.WideShapes Go.Deep
set_option linter.unusedVariables false
set_option maxRecDepth 100000
section
variable {H : Type} {enc : TypeId × Value → H} {w : World} {base : Nat} {spare : Nat → Bool} {held : Bool}
/-- Any slice that comes in, by what opens its elements. -/
theorem open_sl {α : Type} [Inhabited α] (cells : α → List Value) (sz : Nat) {t e : TypeId} (ht : Try.prog.underlying t = some (.slice e)) (hsz : Try.prog.cellsOf e = sz) (hlen : ∀ y, (cells y).length = sz) (h0 : 0 < sz)
    (op : ∀ {n : Nat} {cs : List Value} {x : DataW H × List MemPlace}, DataW.trod enc Try.prog w base (fun _ => true) held n e cs = some x → ∃ y, cs = cells y)
    {n : Nat} {ws : List Value} {x : DataW H × List MemPlace} (h : DataW.trod enc Try.prog w base (fun _ => true) held n t ws = some x) :
    ∃ (A : Option Addr) (c : Nat) (l : List α), ws = [.slice A l.length c] ∧ Sl w sz A (l.map cells) ∧ l.length ≤ c ∧ (A = none → c = 0) ∧ c ≤ 9223372036854775807 := by
  rcases open_slice ht h with ⟨hcs, _⟩ | ⟨a, len, cap', m, n, D, Pl, hcs, hb, hl, hm, hmm, _, hi⟩
  · exact ⟨none, 0, [], hcs, Sl.nil, by simp, fun _ => rfl, by omega⟩
  simp only [if_true] at hmm
  subst hmm
  rw [hsz] at hi
  have hx : ∀ i, ∃ y : α, i < len → ∀ j u, (cells y)[j]? = some u → w.cell? ((a.add (i * sz)).add j) = some u := fun i => by
    by_cases hlt : i < len
    · obtain ⟨cs, hc, ht⟩ := hi i (by omega)
      obtain ⟨y, rfl⟩ := op ht
      obtain ⟨_, _, hat⟩ := World.cells?_some hc
      exact ⟨y, fun _ j u hj => (hat j (by have := (List.getElem?_eq_some_iff.1 hj).1; have := hlen y; omega)).trans hj⟩
    · exact ⟨default, fun h => absurd h hlt⟩
  refine ⟨some a, m, (List.range len).map fun i => Classical.choose (hx i), by simpa using hcs, fun hn => ?_, by simpa using hl, fun e => (by cases e), hm⟩
  have hpos : 0 < len := by
    rcases Nat.eq_zero_or_pos len with h0 | h0
    · subst h0; exact absurd rfl hn
    · exact h0
  obtain ⟨b, o, spot⟩ := a
  have hget : ∃ u, (cells (Classical.choose (hx 0)))[0]? = some u := ⟨_, List.getElem?_eq_getElem (by rw [hlen]; exact h0)⟩
  obtain ⟨u0, hu0⟩ := hget
  have h0' := Classical.choose_spec (hx 0) hpos 0 _ hu0
  have hspot : spot = none := by simpa [Addr.add] using World.cell?_spot h0'
  subst hspot
  have hadd : ∀ i j, ((⟨b, o, none⟩ : Addr).add i).add j = ⟨b, o + i + j, none⟩ := fun i j => by
    unfold Addr.add
    by_cases h1 : i = 0 <;> by_cases h2 : j = 0 <;> simp [h1, h2]
  have hbw : b < w.heap.size := by
    have := h0'
    rw [hadd] at this
    exact block_lt_of_cell this
  refine ⟨b, o, rfl, hbw, fun k cs hk j u hj => ?_⟩
  rw [List.getElem?_map, List.getElem?_map] at hk
  obtain ⟨y, hy, rfl⟩ := Option.map_eq_some_iff.1 hk
  obtain ⟨i, hi', rfl⟩ := Option.map_eq_some_iff.1 hy
  have hkl : k < len := by simpa using (List.getElem?_eq_some_iff.1 hi').1
  obtain rfl : k = i := by
    rw [List.getElem?_range hkl] at hi'; injection hi'
  have := Classical.choose_spec (hx k) hkl j u hj
  rw [hadd] at this
  exact this
theorem cells_int : Try.prog.cellsOf 3 = 1 := by kernel_rfl
theorem cells_bool : Try.prog.cellsOf 4 = 1 := by kernel_rfl
theorem cells_link : Try.prog.cellsOf 57 = 3 := by kernel_rfl
theorem cells_links : Try.prog.cellsOf 58 = 1 := by kernel_rfl
theorem cells_host : Try.prog.cellsOf 82 = 2 := by kernel_rfl
theorem cells_hosts : Try.prog.cellsOf 23 = 1 := by kernel_rfl
theorem cells_plan : Try.prog.cellsOf 60 = 2 := by kernel_rfl
theorem cells_plans : Try.prog.cellsOf 22 = 1 := by kernel_rfl
theorem cells_lan : Try.prog.cellsOf 25 = 3 := by kernel_rfl
instance : Inhabited (Int × Int) := ⟨(0, 0)⟩
theorem link_cells {n : Nat} {cs : List Value} {x : DataW H × List MemPlace} (h : DataW.trod enc Try.prog w base (fun _ => true) held n 57 cs = some x) : ∃ y : Lk, cs = kc y := by
  obtain ⟨xs, m, _, _, hlen, hxl, hg⟩ := DataW.trod_struct Try.underlying57 h
  rw [cells_link] at hlen
  have hxl : xs.length = 3 := hxl
  have g0 : DataW.trod enc Try.prog w base (fun _ => true) held m 3 ((cs.drop 0).take 1) = xs[0]? := (congrArg (fun n => DataW.trod enc Try.prog w base (fun _ => true) held m 3 ((cs.drop 0).take n)) cells_int).symm.trans (hg 0 _ rfl)
  have g1 : DataW.trod enc Try.prog w base (fun _ => true) held m 3 ((cs.drop 1).take 1) = xs[1]? := (congrArg (fun n => DataW.trod enc Try.prog w base (fun _ => true) held m 3 ((cs.drop 1).take n)) cells_int).symm.trans (hg 1 _ rfl)
  have g2 : DataW.trod enc Try.prog w base (fun _ => true) held m 4 ((cs.drop 2).take 1) = xs[2]? := (congrArg (fun n => DataW.trod enc Try.prog w base (fun _ => true) held m 4 ((cs.drop 2).take n)) cells_bool).symm.trans (hg 2 _ rfl)
  match cs, hlen, xs, hxl with
  | [c0, c1, c2], _, [y0, y1, y2], _ =>
    obtain ⟨a, h0, _, _⟩ := DataW.trod_int Try.underlying3 g0
    obtain ⟨b, h1, _, _⟩ := DataW.trod_int Try.underlying3 g1
    obtain ⟨c, h2, _⟩ := DataW.trod_bool Try.underlying4 g2
    simp only [List.drop_zero, List.drop_succ_cons, List.take_succ_cons, List.take_zero, List.cons.injEq, and_true] at h0 h1 h2
    subst h0; subst h1; subst h2
    exact ⟨⟨a, b, c⟩, rfl⟩
theorem host_cells {n : Nat} {cs : List Value} {x : DataW H × List MemPlace} (h : DataW.trod enc Try.prog w base (fun _ => true) held n 82 cs = some x) : ∃ y : Hs, cs = hc y := by
  obtain ⟨xs, m, _, _, hlen, hxl, hg⟩ := DataW.trod_struct Try.underlying82 h
  rw [cells_host] at hlen
  have hxl : xs.length = 2 := hxl
  have g0 : DataW.trod enc Try.prog w base (fun _ => true) held m 3 ((cs.drop 0).take 1) = xs[0]? := (congrArg (fun n => DataW.trod enc Try.prog w base (fun _ => true) held m 3 ((cs.drop 0).take n)) cells_int).symm.trans (hg 0 _ rfl)
  have g1 : DataW.trod enc Try.prog w base (fun _ => true) held m 3 ((cs.drop 1).take 1) = xs[1]? := (congrArg (fun n => DataW.trod enc Try.prog w base (fun _ => true) held m 3 ((cs.drop 1).take n)) cells_int).symm.trans (hg 1 _ rfl)
  match cs, hlen, xs, hxl with
  | [c0, c1], _, [y0, y1], _ =>
    obtain ⟨a, h0, _, _⟩ := DataW.trod_int Try.underlying3 g0
    obtain ⟨b, h1, _, _⟩ := DataW.trod_int Try.underlying3 g1
    simp only [List.drop_zero, List.drop_succ_cons, List.take_succ_cons, List.take_zero, List.cons.injEq, and_true] at h0 h1
    subst h0; subst h1
    exact ⟨(a, b), rfl⟩
/-- A bridge that lies in w. -/
def PIn (w : World) : Type := {x : PP // x.in_ w}
instance : Inhabited (PIn w) := ⟨⟨⟨⟨0, []⟩, none, 0⟩, Row.zero w⟩⟩
theorem plan_cells {n : Nat} {cs : List Value} {x : DataW H × List MemPlace} (h : DataW.trod enc Try.prog w base (fun _ => true) held n 60 cs = some x) : ∃ y : PIn w, cs = y.1.cells := by
  obtain ⟨xs, m, _, _, hlen, hxl, hg⟩ := DataW.trod_struct Try.underlying60 h
  rw [cells_plan] at hlen
  have hxl : xs.length = 2 := hxl
  have g0 : DataW.trod enc Try.prog w base (fun _ => true) held m 3 ((cs.drop 0).take 1) = xs[0]? := (congrArg (fun n => DataW.trod enc Try.prog w base (fun _ => true) held m 3 ((cs.drop 0).take n)) cells_int).symm.trans (hg 0 _ rfl)
  have g1 : DataW.trod enc Try.prog w base (fun _ => true) held m 58 ((cs.drop 1).take 1) = xs[1]? := (congrArg (fun n => DataW.trod enc Try.prog w base (fun _ => true) held m 58 ((cs.drop 1).take n)) cells_links).symm.trans (hg 1 _ rfl)
  match cs, hlen, xs, hxl with
  | [c0, c1], _, [y0, y1], _ =>
    obtain ⟨a, h0, _, _⟩ := DataW.trod_int Try.underlying3 g0
    obtain ⟨A, c, l, h1, hs, hl, hn, hm⟩ := open_sl (α := Lk) kc 3 Try.underlying58 cells_link (fun _ => rfl) (by decide) (fun h => link_cells h) g1
    simp only [List.drop_zero, List.drop_succ_cons, List.take_succ_cons, List.take_zero, List.cons.injEq, and_true] at h0 h1
    subst h0; subst h1
    exact ⟨⟨⟨⟨a, l⟩, A, c⟩, ⟨rfl, hs, hl, hn, hm⟩⟩, rfl⟩
/-- A plan that comes in. -/
def InLan (w : World) (v : Value) : Prop := ∃ l A c B d, v = lv l A c B d ∧ LanR w l A c B d
theorem lan_cells {n : Nat} {cs : List Value} {x : DataW H × List MemPlace} (h : DataW.trod enc Try.prog w base (fun _ => true) held n 25 cs = some x) : ∃ l A c B d, cs = (lc l A c B d).toList ∧ LanR w l A c B d := by
  obtain ⟨xs, m, _, _, hlen, hxl, hg⟩ := DataW.trod_struct Try.underlying25 h
  rw [cells_lan] at hlen
  have hxl : xs.length = 3 := hxl
  have g0 : DataW.trod enc Try.prog w base (fun _ => true) held m 3 ((cs.drop 0).take 1) = xs[0]? := (congrArg (fun n => DataW.trod enc Try.prog w base (fun _ => true) held m 3 ((cs.drop 0).take n)) cells_int).symm.trans (hg 0 _ rfl)
  have g1 : DataW.trod enc Try.prog w base (fun _ => true) held m 22 ((cs.drop 1).take 1) = xs[1]? := (congrArg (fun n => DataW.trod enc Try.prog w base (fun _ => true) held m 22 ((cs.drop 1).take n)) cells_plans).symm.trans (hg 1 _ rfl)
  have g2 : DataW.trod enc Try.prog w base (fun _ => true) held m 23 ((cs.drop 2).take 1) = xs[2]? := (congrArg (fun n => DataW.trod enc Try.prog w base (fun _ => true) held m 23 ((cs.drop 2).take n)) cells_hosts).symm.trans (hg 2 _ rfl)
  match cs, hlen, xs, hxl with
  | [c0, c1, c2], _, [y0, y1, y2], _ =>
    obtain ⟨s, h0, _, _⟩ := DataW.trod_int Try.underlying3 g0
    obtain ⟨A, c, ps, h1, hs, hl, hn, hm⟩ := open_sl (α := PIn w) (fun y => y.1.cells) 2 Try.underlying22 cells_plan (fun _ => rfl) (by decide) (fun h => plan_cells h) g1
    obtain ⟨B, d, hs', h2, hs2, hl2, hn2, hm2⟩ := open_sl (α := Hs) hc 2 Try.underlying23 cells_host (fun _ => rfl) (by decide) (fun h => host_cells h) g2
    simp only [List.drop_zero, List.drop_succ_cons, List.take_succ_cons, List.take_zero, List.cons.injEq, and_true] at h0 h1 h2
    subst h0; subst h1; subst h2
    have hs3 : Sl w 2 A ((ps.map fun y => y.1).map PP.cells) := by rw [List.map_map]; exact hs
    refine ⟨⟨s, (ps.map fun y => y.1).map PP.p, hs'⟩, A, c, B, d, by simp, ⟨⟨rfl, by simpa using hl, hn, hm, _, rfl, hs3, fun z hz => ?_⟩, ⟨rfl, hs2, hl2, hn2, hm2⟩⟩⟩
    obtain ⟨y, _, rfl⟩ := List.mem_map.1 hz
    exact y.2
theorem open_lan {r' : World} {v : Value} {d : DataW H} {p : List MemPlace} {r : Reach} {b0 : Nat} (hv : Value.okWide Try.prog r' r b0 25 v) (h : DataW.Trod enc Try.prog w base (fun _ => true) held 25 v d p) : InLan w v := by
  obtain ⟨cs, rfl, hsz⟩ := okWide_struct Try.underlying25 hv
  obtain ⟨fuel, hf⟩ := h
  obtain ⟨l, A, c, B, d, hcs, hin⟩ := lan_cells hf
  refine ⟨l, A, c, B, d, ?_, hin⟩
  have e : cs.toList = (lc l A c B d).toList := by simpa [Value.cells] using hcs
  rw [Array.toList_inj.1 e]
end
end Go.Proofs.Ytgcmklliafcffaa.LanP
