/-
  Tables as they come in; few.
-/
import Derived.Test.YtnghilcjecjljaaFdbQ
import Derived.Lib.SmallJoins
namespace Go.Proofs.Ytnghilcjecjljaa.FdbP
open Go.RowKit Go.Sort Go.Proofs.Ytnghilcjecjljaa.SliceP Go.Proofs.Ytnghilcjecjljaa.MacP Go.ChangeShapes Go.WideShapes Go.Deep
set_option linter.unusedVariables false
set_option maxRecDepth 100000

section
variable {H : Type} {enc : TypeId × Value → H} {w : World} {base : Nat} {spare : Nat → Bool} {held : Bool}
theorem cells_int : Try.prog.cellsOf 3 = 1 := by kernel_rfl
theorem cells_bool : Try.prog.cellsOf 4 = 1 := by kernel_rfl
theorem cells_entry : Try.prog.cellsOf 57 = 4 := by kernel_rfl
theorem cells_row : Try.prog.cellsOf 55 = 1 := by kernel_rfl
/-- Four cells that read as an entry. -/
theorem open_entry {n : Nat} {cs : List Value} {x : DataW H × List MemPlace} (h : DataW.trod enc Try.prog w base spare held n 57 cs = some x) : ∃ y : E, cs = y.cells := by
  obtain ⟨xs, m, _, _, hlen, hxl, hg⟩ := DataW.trod_struct Try.underlying57 h
  rw [cells_entry] at hlen
  have hxl : xs.length = 4 := hxl
  have g0 : DataW.trod enc Try.prog w base spare held m 3 ((cs.drop 0).take 1) = xs[0]? := (congrArg (fun n => DataW.trod enc Try.prog w base spare held m 3 ((cs.drop 0).take n)) cells_int).symm.trans (hg 0 _ rfl)
  have g1 : DataW.trod enc Try.prog w base spare held m 3 ((cs.drop 1).take 1) = xs[1]? := (congrArg (fun n => DataW.trod enc Try.prog w base spare held m 3 ((cs.drop 1).take n)) cells_int).symm.trans (hg 1 _ rfl)
  have g2 : DataW.trod enc Try.prog w base spare held m 3 ((cs.drop 2).take 1) = xs[2]? := (congrArg (fun n => DataW.trod enc Try.prog w base spare held m 3 ((cs.drop 2).take n)) cells_int).symm.trans (hg 2 _ rfl)
  have g3 : DataW.trod enc Try.prog w base spare held m 4 ((cs.drop 3).take 1) = xs[3]? := (congrArg (fun n => DataW.trod enc Try.prog w base spare held m 4 ((cs.drop 3).take n)) cells_bool).symm.trans (hg 3 _ rfl)
  match cs, hlen, xs, hxl with
  | [c0, c1, c2, c3], _, [y0, y1, y2, y3], _ =>
    obtain ⟨r0, h0, _, _⟩ := DataW.trod_int Try.underlying3 g0
    obtain ⟨r1, h1, _, _⟩ := DataW.trod_int Try.underlying3 g1
    obtain ⟨r2, h2, _, _⟩ := DataW.trod_int Try.underlying3 g2
    obtain ⟨r3, h3, _⟩ := DataW.trod_bool Try.underlying4 g3
    simp only [List.drop_zero, List.drop_succ_cons, List.take_succ_cons, List.take_zero, List.cons.injEq, and_true] at h0 h1 h2 h3
    subst h0; subst h1; subst h2; subst h3
    exact ⟨⟨r0, r1, r2, r3⟩, rfl⟩

/-- A row of entries, small enough for an int. -/
structure RowB (w : World) (A : Option Addr) (n c : Nat) (l : List E) : Prop where
  row : RowE w A n c l
  big : c ≤ 9223372036854775807
theorem RowB.nil (w : World) : RowB w none 0 0 [] := ⟨RowE.empty w, by omega⟩
/-- A row of entries that came in. -/
theorem open_row {n0 : Nat} {cs : List Value} {x : DataW H × List MemPlace} (hf : DataW.trod enc Try.prog w base (fun _ => true) held n0 55 cs = some x) : ∃ A n c l, cs = [.slice A n c] ∧ RowB w A n c l := by
  rcases open_slice Try.underlying55 hf with ⟨hcs, _⟩ | ⟨a, len, cap, m, n, D, Pl, hcs, hb, hl, hm, hmm, _, hi⟩
  · exact ⟨none, 0, 0, [], hcs, RowB.nil w⟩
  subst hcs
  simp only [if_true] at hmm
  subst hmm
  rw [cells_entry] at hi
  have hx : ∀ i, ∃ y : E, i < len → ∀ j u, y.cells[j]? = some u → w.cell? ((a.add (i * 4)).add j) = some u := fun i => by
    by_cases hlt : i < len
    · obtain ⟨cs, hc, ht⟩ := hi i (by omega)
      obtain ⟨y, rfl⟩ := open_entry ht
      obtain ⟨_, _, hat⟩ := World.cells?_some hc
      exact ⟨y, fun _ j u hj => (hat j ((List.getElem?_eq_some_iff.1 hj).1)).trans hj⟩
    · exact ⟨default, fun h => absurd h hlt⟩
  refine ⟨some a, len, m, (List.range len).map fun i => Classical.choose (hx i), rfl, ⟨by simp, fun hn => ?_, hl, fun h => by cases h⟩, by unfold maxLen at hm; omega⟩
  have hpos : 0 < len := by
    rcases Nat.eq_zero_or_pos len with h0 | h0
    · subst h0; exact absurd rfl hn
    · exact h0
  obtain ⟨b, o, spot⟩ := a
  have h0 := Classical.choose_spec (hx 0) hpos 0 _ rfl
  have hspot : spot = none := by simpa [Addr.add] using World.cell?_spot h0
  subst hspot
  have hadd : ∀ i j, ((⟨b, o, none⟩ : Addr).add i).add j = ⟨b, o + i + j, none⟩ := fun i j => by
    unfold Addr.add
    by_cases h1 : i = 0 <;> by_cases h2 : j = 0 <;> simp [h1, h2]
  have hbw : b < w.heap.size := by
    have := h0
    rw [hadd] at this
    exact block_lt_of_cell this
  refine ⟨b, o, rfl, hbw, fun k cs hk j u hj => ?_⟩
  rw [List.getElem?_map, List.getElem?_map] at hk
  obtain ⟨y, hy, rfl⟩ := Option.map_eq_some_iff.1 hk
  obtain ⟨i, hi', rfl⟩ := Option.map_eq_some_iff.1 hy
  have hkl : k < len := by simpa using (List.getElem?_eq_some_iff.1 hi').1
  obtain rfl : k = i := by
    rw [List.getElem?_range hkl] at hi'; injection hi'
  have := Classical.choose_spec (hx k) hkl j u hj
  rw [hadd] at this
  exact this

/-- A row of buckets that comes in: its slices are told by 'rs'. -/
structure TabI (w : World) (A : Option Addr) (n c : Nat) (rs : List (Option Addr × Nat × Nat)) (bs : List (List E)) : Prop where
  len : n = bs.length
  len' : n = rs.length
  cap : n ≤ c
  big : c ≤ 9223372036854775807
  nil : A = none → c = 0
  at_ : ∀ k r xs, rs[k]? = some r → bs[k]? = some xs → ∃ b o, A = some ⟨b, o, none⟩ ∧ b < w.heap.size ∧ w.cell? ⟨b, o + k, none⟩ = some (.slice r.1 r.2.1 r.2.2) ∧ RowB w r.1 r.2.1 r.2.2 xs
theorem open_tab {n0 : Nat} {cs : List Value} {x : DataW H × List MemPlace} (hf : DataW.trod enc Try.prog w base (fun _ => true) held n0 22 cs = some x) : ∃ A n c rs bs, cs = [.slice A n c] ∧ TabI w A n c rs bs := by
  rcases open_slice Try.underlying22 hf with ⟨hcs, _⟩ | ⟨a, len, cap, m, n, D, Pl, hcs, hb, hl, hm, hmm, _, hi⟩
  · exact ⟨none, 0, 0, [], [], hcs, rfl, rfl, Nat.le_refl _, by omega, fun _ => rfl, fun k r xs h => by simp at h⟩
  subst hcs
  simp only [if_true] at hmm
  subst hmm
  rw [cells_row] at hi
  have hx : ∀ i, ∃ y : (Option Addr × Nat × Nat) × List E, i < len → w.cell? (a.add i) = some (.slice y.1.1 y.1.2.1 y.1.2.2) ∧ RowB w y.1.1 y.1.2.1 y.1.2.2 y.2 := fun i => by
    by_cases hlt : i < len
    · obtain ⟨cs, hc, ht⟩ := hi i (by omega)
      obtain ⟨A', n', c', l, rfl, hr⟩ := open_row ht
      obtain ⟨_, _, hat⟩ := World.cells?_some hc
      have := hat 0 (by simp)
      exact ⟨⟨⟨A', n', c'⟩, l⟩, fun _ => ⟨by simpa [Addr.add] using this, hr⟩⟩
    · exact ⟨⟨⟨none, 0, 0⟩, []⟩, fun h => absurd h hlt⟩
  refine ⟨some a, len, m, (List.range len).map fun i => (Classical.choose (hx i)).1, (List.range len).map fun i => (Classical.choose (hx i)).2, rfl, by simp, by simp, hl, by unfold maxLen at hm; omega, (fun h => by cases h), fun k r xs hr hxs => ?_⟩
  rw [List.getElem?_map] at hr hxs
  obtain ⟨i, hi', rfl⟩ := Option.map_eq_some_iff.1 hr
  obtain ⟨i', hi'', rfl⟩ := Option.map_eq_some_iff.1 hxs
  have hkl : k < len := by simpa using (List.getElem?_eq_some_iff.1 hi').1
  obtain rfl : k = i := by rw [List.getElem?_range hkl] at hi'; injection hi'
  obtain rfl : k = i' := by rw [List.getElem?_range hkl] at hi''; injection hi''
  obtain ⟨hc0, _⟩ := Classical.choose_spec (hx 0) (by omega)
  obtain ⟨hc, hrow⟩ := Classical.choose_spec (hx k) hkl
  have hsp : a.spot = none := by simpa [Addr.add] using World.cell?_spot hc0
  clear hc0
  revert hc hrow
  generalize Classical.choose (hx k) = y
  intro hc hrow
  obtain ⟨b, o, spot⟩ := a
  have hspot : spot = none := hsp
  subst hspot
  have hadd : (⟨b, o, none⟩ : Addr).add k = ⟨b, o + k, none⟩ := by
    unfold Addr.add
    by_cases h1 : k = 0 <;> simp [h1]
  rw [hadd] at hc
  exact ⟨b, o, rfl, block_lt_of_cell hc, hc, hrow⟩

/-- A table that comes in. -/
def InTab (w : World) (v : Value) : Prop := ∃ A n c rs bs s ag, v = tbv (.slice A n c) s ag ∧ TabI w A n c rs bs
theorem open_table {v : Value} {d : DataW H} {p : List MemPlace} {r : Reach} {b0 : Nat} (hv : Value.okWide Try.prog w r b0 24 v) (h : DataW.Trod enc Try.prog w base (fun _ => true) held 24 v d p) :
    InTab w v := by
  obtain ⟨v0, v1, v2, y0, y1, y2, n, rfl, _, _, h0, h1, h2⟩ := Joins.open_agg3 Try.underlying24 (by kernel_rfl) (by kernel_rfl) hv h
  obtain ⟨A, n', c, rs, bs, hcs, hT⟩ := open_tab h0
  obtain ⟨s, hs, _⟩ := DataW.trod_int Try.underlying3 h1
  obtain ⟨ag, hg, _⟩ := DataW.trod_int Try.underlying3 h2
  obtain rfl := List.singleton_inj.1 hcs
  obtain rfl := List.singleton_inj.1 hs
  obtain rfl := List.singleton_inj.1 hg
  exact ⟨A, n', c, rs, bs, s, ag, rfl, hT⟩
end
end Go.Proofs.Ytnghilcjecjljaa.FdbP
