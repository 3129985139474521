/-
  A slice of vecs that came in, opened; VecBest whole.
-/
import Derived.Test.YtanceablbmgblaaVecL
import Derived.Deep.Slices
import Derived.WideShapes
import Derived.Carry
namespace Go.Proofs.Ytanceablbmgblaa.VecP
open Go.RowKit Go.Sort Go.Proofs.Ytanceablbmgblaa.SliceP Go.ChangeShapes Go.WideShapes Go.Deep
set_option linter.unusedVariables false
set_option maxRecDepth 100000


/-- A slice of vecs as it comes in. -/
def InV (w : World) (v : Value) : Prop := v = .slice none 0 0 ∨ ∃ (a : Addr) (L : List V) (cap : Nat), v = .slice (some a) L.length cap ∧ L.length ≤ cap ∧ cap ≤ 9223372036854775807 ∧ SlV w (some a) L
section
variable {H : Type} {enc : TypeId × Value → H} {w : World} {base : Nat} {spare : Nat → Bool} {held : Bool}
theorem cells_int : Try.prog.cellsOf 3 = 1 := by kernel_rfl
theorem cells_vec : Try.prog.cellsOf 23 = 4 := by kernel_rfl
/-- Four cells that read as a vec. -/
theorem open_vec {n : Nat} {cs : List Value} {x : DataW H × List MemPlace} (h : DataW.trod enc Try.prog w base spare held n 23 cs = some x) : ∃ y : V, cs = y.cells := by
  obtain ⟨xs, m, _, _, hlen, hxl, hg⟩ := DataW.trod_struct Try.underlying23 h
  rw [cells_vec] at hlen
  have hxl : xs.length = 4 := hxl
  have g0 : DataW.trod enc Try.prog w base spare held m 3 ((cs.drop 0).take 1) = xs[0]? := (congrArg (fun n => DataW.trod enc Try.prog w base spare held m 3 ((cs.drop 0).take n)) cells_int).symm.trans (hg 0 _ rfl)
  have g1 : DataW.trod enc Try.prog w base spare held m 3 ((cs.drop 1).take 1) = xs[1]? := (congrArg (fun n => DataW.trod enc Try.prog w base spare held m 3 ((cs.drop 1).take n)) cells_int).symm.trans (hg 1 _ rfl)
  have g2 : DataW.trod enc Try.prog w base spare held m 3 ((cs.drop 2).take 1) = xs[2]? := (congrArg (fun n => DataW.trod enc Try.prog w base spare held m 3 ((cs.drop 2).take n)) cells_int).symm.trans (hg 2 _ rfl)
  have g3 : DataW.trod enc Try.prog w base spare held m 3 ((cs.drop 3).take 1) = xs[3]? := (congrArg (fun n => DataW.trod enc Try.prog w base spare held m 3 ((cs.drop 3).take n)) cells_int).symm.trans (hg 3 _ rfl)
  match cs, hlen, xs, hxl with
  | [c0, c1, c2, c3], _, [y0, y1, y2, y3], _ =>
    obtain ⟨r, h0, _, _⟩ := DataW.trod_int Try.underlying3 g0
    obtain ⟨c, h1, _, _⟩ := DataW.trod_int Try.underlying3 g1
    obtain ⟨b, h2, _, _⟩ := DataW.trod_int Try.underlying3 g2
    obtain ⟨p, h3, _, _⟩ := DataW.trod_int Try.underlying3 g3
    simp only [List.drop_zero, List.drop_succ_cons, List.take_succ_cons, List.take_zero, List.cons.injEq, and_true] at h0 h1 h2 h3
    subst h0; subst h1; subst h2; subst h3
    exact ⟨⟨r, c, b, p⟩, rfl⟩

/-- A slice of vecs that came in. -/
theorem open_vecs {v : Value} {d : DataW H} {p : List MemPlace} {r : Reach} {b0 : Nat} (hv : Value.okWide Try.prog w r b0 24 v) (h : DataW.Trod enc Try.prog w base (fun _ => true) held 24 v d p) :
    InV w v := by
  obtain ⟨a0, len, cap, rfl⟩ := okWide_slice Try.underlying24 hv
  obtain ⟨fuel, hf⟩ := h
  rcases open_slice Try.underlying24 hf with ⟨hcs, _⟩ | ⟨a, len', cap', m, n, D, Pl, hcs, hb, hl, hm, hmm, _, hi⟩
  · left
    simp [Value.cells] at hcs
    obtain ⟨rfl, rfl, rfl⟩ := hcs; rfl
  right
  simp [Value.cells] at hcs
  obtain ⟨rfl, rfl, rfl⟩ := hcs
  simp only [if_true] at hmm
  subst hmm
  rw [cells_vec] at hi
  have hx : ∀ i, ∃ y : V, i < len → ∀ j u, y.cells[j]? = some u → w.cell? ((a.add (i * 4)).add j) = some u := fun i => by
    by_cases hlt : i < len
    · obtain ⟨cs, hc, ht⟩ := hi i (by omega)
      obtain ⟨y, rfl⟩ := open_vec ht
      obtain ⟨_, _, hat⟩ := World.cells?_some hc
      exact ⟨y, fun _ j u hj => (hat j ((List.getElem?_eq_some_iff.1 hj).1)).trans hj⟩
    · exact ⟨default, fun h => absurd h hlt⟩
  refine ⟨a, (List.range len).map fun i => Classical.choose (hx i), m, by simp, by simpa using hl, hm, fun hn => ?_⟩
  have hpos : 0 < len := by
    rcases Nat.eq_zero_or_pos len with h0 | h0
    · subst h0; exact absurd rfl hn
    · exact h0
  obtain ⟨b, o, spot⟩ := a
  have h0 := Classical.choose_spec (hx 0) hpos 0 _ rfl
  have hspot : spot = none := by simpa [Addr.add] using World.cell?_spot h0
  subst hspot
  have hadd : ∀ i j, ((⟨b, o, none⟩ : Addr).add i).add j = ⟨b, o + i + j, none⟩ := fun i j => by
    unfold Addr.add
    by_cases h1 : i = 0 <;> by_cases h2 : j = 0 <;> simp [h1, h2]
  have hbw : b < w.heap.size := by
    have := h0
    rw [hadd] at this
    exact block_lt_of_cell this
  refine ⟨b, o, rfl, hbw, fun k cs hk j u hj => ?_⟩
  rw [List.getElem?_map, List.getElem?_map] at hk
  obtain ⟨y, hy, rfl⟩ := Option.map_eq_some_iff.1 hk
  obtain ⟨i, hi', rfl⟩ := Option.map_eq_some_iff.1 hy
  have hkl : k < len := by simpa using (List.getElem?_eq_some_iff.1 hi').1
  obtain rfl : k = i := by
    rw [List.getElem?_range hkl] at hi'; injection hi'
  have := Classical.choose_spec (hx k) hkl j u hj
  rw [hadd] at this
  exact this
end

set_option maxHeartbeats 2000000 in
theorem vbest_none (a : Option Addr) (cap : Nat) (w : World) (ha : a = none → cap = 0) (hc : cap ≤ 9223372036854775807) :
    Calls Try.prog 6 #[.slice a 0 cap] w fun e w' => e = .returned (.bool true) ∧ Below w.heap.size w w' := by
  have hfew : ∀ w, Calls Try.prog 7 #[.slice a 0 cap] w fun e w' => e = .returned (.slice a 0 cap) ∧ w = w' := fun w => by
    cases a with
    | none => obtain rfl := ha rfl; exact few_nil 0 w
    | some a => exact few_any a 0 cap w (by omega) hc
  clear ha
  go_enter Try.func6, Try.ntmps6
  go_wp2_with fail
  go_at_call 7
  (with_reducible refine (hfew _).mono ?_)
  rintro e w' ⟨rfl, rfl⟩
  go_wp2_with fail
  go_at_call 10
  (with_reducible refine (best_none _ _ _).mono ?_)
  rintro e w1 ⟨rfl, hb1⟩
  go_wp2_with fail
  go_at_call 11
  (with_reducible refine (sort_none _ _ _).mono ?_)
  rintro e w2 ⟨rfl, hb2⟩
  have B2 : Below w.heap.size w w2 := hb1.trans (hb2.mono hb1.size)
  clear hb1 hb2
  go_wp2_with fail
  go_at_call 14
  (with_reducible refine (alive_any _).mono ?_)
  rintro e w3 ⟨rfl, hb3⟩
  have B3 := B2.trans (hb3.mono B2.size)
  clear hb3 B2
  go_wp2_with fail
  go_ret
  exact ⟨rfl, B3⟩

set_option maxHeartbeats 2000000 in
theorem vbest_bad (a : Addr) (cap : Nat) (L l : List V) (w : World) (hL : L.length ≤ cap) (hc : cap ≤ 9223372036854775807) (e : min L.length 60 = l.length) (h : SlV w (some a) l) (hok : l.all V.ok = false) :
    Calls Try.prog 6 #[.slice (some a) L.length cap] w fun e w' => e = .returned (.bool true) ∧ Below w.heap.size w w' := by
  have h0 : 0 < l.length := by
    cases l with
    | nil => simp at hok
    | cons _ _ => simp
  have hl : l.length ≤ 60 := by omega
  have E := Lib.hid e
  have H := Lib.hid h
  have HA := Lib.hid hok
  clear e h hok
  go_enter Try.func6, Try.ntmps6
  go_wp2_with fail
  go_at_call 7
  (with_reducible refine (few_any _ _ _ _ hL hc).mono ?_)
  rintro e w' ⟨rfl, rfl⟩
  rw [E.out]
  go_wp2_with fail
  go_at_call 10
  (with_reducible refine (best_bad _ _ _ _ (by omega) H.out HA.out).mono ?_)
  rintro e w1 ⟨rfl, hb1⟩
  have H1 := Lib.hid (H.out.below hb1)
  clear H
  go_wp2_with fail
  go_at_call 11
  (with_reducible refine (sort_bad _ _ _ _ (by omega) H1.out HA.out).mono ?_)
  rintro e w2 ⟨rfl, hb2⟩
  have B2 : Below w.heap.size w w2 := hb1.trans (hb2.mono hb1.size)
  clear hb1 hb2
  go_wp2_with fail
  go_at_call 14
  (with_reducible refine (alive_any _).mono ?_)
  rintro e w3 ⟨rfl, hb3⟩
  have B3 := B2.trans (hb3.mono B2.size)
  clear hb3 B2
  go_wp2_with fail
  go_ret
  exact ⟨rfl, B3⟩

theorem vbest_law (v : Value) (w : World) (h : InV w v) :
    Calls Try.prog 6 #[v] w fun e w' => e = .returned (.bool true) ∧ Below w.heap.size w w' := by
  rcases h with rfl | ⟨a, L, cap, rfl, hL, hc, hS⟩
  · exact vbest_none none 0 w (fun _ => rfl) (by omega)
  · have e : min L.length 60 = (L.take 60).length := by rw [List.length_take]; omega
    have hS' := hS.take 60
    by_cases h0 : L = []
    · subst h0; exact vbest_none (some a) cap w (by simp) hc
    · have hp : 0 < L.length := List.length_pos_iff.2 h0
      cases hok : (L.take 60).all V.ok
      · exact vbest_bad a cap L _ w hL hc e hS' hok
      · obtain ⟨x, hx⟩ : ∃ x, L[0]? = some x := ⟨_, List.getElem?_eq_getElem hp⟩
        obtain ⟨b, o, ea, hb, _⟩ := hS.at_ hx
        injection ea with ea
        subst ea
        exact vbest_good b o cap L _ w hL hc e hS' hb (by rw [← e]; omega) hok
end Go.Proofs.Ytanceablbmgblaa.VecP
