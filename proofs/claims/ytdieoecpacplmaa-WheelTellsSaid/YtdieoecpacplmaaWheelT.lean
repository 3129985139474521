/-
  Contract of the statements' alive; how an argument comes down.
-/
import Derived.Test.YtdieoecpacplmaaWheelS
import Derived.Deep.Slices
import Derived.WideShapes
import Derived.Carry
namespace Go.Proofs.Ytdieoecpacplmaa.WheelP
open Go.RowKit Go.Sort Go.Proofs.Ytdieoecpacplmaa.SliceP Go.Proofs.Ytdieoecpacplmaa.MacP Go.ChangeShapes Go.WideShapes Go.Deep
set_option linter.unusedVariables false
set_option maxRecDepth 100000

theorem row_lit (W : World) (x : T) (n : Nat) (hn : W.heap.size = n) : RowT (W.alloc (tObj x.id x.due)) (some ⟨n, 0, none⟩) 1 1 [x] := ⟨rfl, sl_lit W x.id x.due n hn, Nat.le_refl _, fun h => by cases h⟩
theorem row_two (W : World) (x y : T) : RowT (W.alloc (.cells #[.int .i64 x.id, .int .i64 x.due, .int .i64 y.id, .int .i64 y.due] 24)) (some ⟨W.heap.size, 0, none⟩) 2 2 [x, y] := by
  refine ⟨rfl, fun _ => ⟨W.heap.size, 0, rfl, by simp, fun k cs hk j v hj => ?_⟩, Nat.le_refl _, fun h => by cases h⟩
  match k, hk with
  | 0, hk =>
    obtain rfl : T.cells x = cs := by simpa using hk
    match j, hj with
    | 0, hj => simp [T.cells] at hj; subst hj; go_simp
    | 1, hj => simp [T.cells] at hj; subst hj; go_simp
    | j + 2, hj => simp [T.cells] at hj
  | 1, hk =>
    obtain rfl : T.cells y = cs := by simpa using hk
    match j, hj with
    | 0, hj => simp [T.cells] at hj; subst hj; go_simp
    | 1, hj => simp [T.cells] at hj; subst hj; go_simp
    | j + 2, hj => simp [T.cells] at hj
  | k + 2, hk => simp at hk
theorem good_two : Good [⟨7, 3⟩, ⟨2, 5⟩] := ⟨by simp, by decide, by simp [Apart, aheadP]⟩
theorem adv_two {A : Option Addr} {n c : Nat} {w : World} (h : RowT w A n c [⟨7, 3⟩, ⟨2, 5⟩]) :
    Calls Try.prog 10 #[.slice A n c, .int .i64 4] w (Ret2 w [⟨2, 5⟩] [⟨7, 3⟩] 0) := advance_good h 4 good_two rfl

set_option maxHeartbeats 2000000 in
theorem alive_any (w : World) : Calls Try.prog 14 #[] w fun e w' => e = .returned (.bool true) ∧ Below w.heap.size w w' := by
  have R0 := Lib.hid (row_two w ⟨7, 3⟩ ⟨2, 5⟩)
  go_enter Try.func14, Try.ntmps14
  go_wp2_with fail
  go_at_call 10
  (with_reducible refine (adv_two R0.out).mono ?_)
  rintro e w1 ⟨A1, c1, A2, c2, rfl, o1, o2, hb1⟩
  have B1 : Below w.heap.size w w1 := ((Below.refl _ _).alloc (Nat.le_refl _) _).trans (hb1.mono (by simp))
  have R1 := Lib.hid (show RowT (w1.alloc (tObj 2 5)) A1 1 c1 [⟨2, 5⟩] from (own_row o1).below ((Below.refl _ _).alloc (Nat.le_refl _) (tObj 2 5)))
  have R2 := Lib.hid (show RowT (w1.alloc (tObj 2 5)) A2 1 c2 [⟨7, 3⟩] from (own_row o2).below ((Below.refl _ _).alloc (Nat.le_refl _) (tObj 2 5)))
  have L1 := Lib.hid (row_lit w1 ⟨2, 5⟩ _ rfl)
  clear hb1 o1 o2 R0
  go_wp2_with fail
  go_at_call 17
  (with_reducible refine (same_true R1.out L1.out rfl (by simp)).mono ?_)
  rintro e w2 ⟨rfl, hb2⟩
  have B2 : Below w.heap.size w w2 := (B1.alloc B1.size _).trans (hb2.mono (by have := B1.size; simp; omega))
  have R3 := Lib.hid ((R2.out.below hb2).below ((Below.refl _ _).alloc (Nat.le_refl _) (tObj 7 3)))
  have L2 := Lib.hid (row_lit w2 ⟨7, 3⟩ _ rfl)
  clear hb2 R1 R2 L1 B1
  go_wp2_with fail
  go_at_call 17
  (with_reducible refine (same_true R3.out L2.out rfl (by simp)).mono ?_)
  rintro e w3 ⟨rfl, hb3⟩
  have B3 : Below w.heap.size w w3 := (B2.alloc B2.size _).trans (hb3.mono (by have := B2.size; simp; omega))
  clear hb3 R3 L2 B2
  go_wp2_with fail
  go_ret
  exact ⟨rfl, B3⟩

/-- A slice of timers as it comes in. -/
def InT (w : World) (v : Value) : Prop := v = .slice none 0 0 ∨ ∃ (a : Addr) (L : List T) (cap : Nat), v = .slice (some a) L.length cap ∧ L.length ≤ cap ∧ cap ≤ 9223372036854775807 ∧ SlT w (some a) L
section
variable {H : Type} {enc : TypeId × Value → H} {w : World} {base : Nat} {spare : Nat → Bool} {held : Bool}
theorem cells_int : Try.prog.cellsOf 3 = 1 := by kernel_rfl
theorem cells_timer : Try.prog.cellsOf 24 = 2 := by kernel_rfl
/-- Two cells that read as a timer. -/
theorem open_timer {n : Nat} {cs : List Value} {x : DataW H × List MemPlace} (h : DataW.trod enc Try.prog w base spare held n 24 cs = some x) : ∃ y : T, cs = y.cells := by
  obtain ⟨xs, m, _, _, hlen, hxl, hg⟩ := DataW.trod_struct Try.underlying24 h
  rw [cells_timer] at hlen
  have hxl : xs.length = 2 := hxl
  have g0 : DataW.trod enc Try.prog w base spare held m 3 ((cs.drop 0).take 1) = xs[0]? := (congrArg (fun n => DataW.trod enc Try.prog w base spare held m 3 ((cs.drop 0).take n)) cells_int).symm.trans (hg 0 _ rfl)
  have g1 : DataW.trod enc Try.prog w base spare held m 3 ((cs.drop 1).take 1) = xs[1]? := (congrArg (fun n => DataW.trod enc Try.prog w base spare held m 3 ((cs.drop 1).take n)) cells_int).symm.trans (hg 1 _ rfl)
  match cs, hlen, xs, hxl with
  | [c0, c1], _, [y0, y1], _ =>
    obtain ⟨r, h0, _, _⟩ := DataW.trod_int Try.underlying3 g0
    obtain ⟨c, h1, _, _⟩ := DataW.trod_int Try.underlying3 g1
    simp only [List.drop_zero, List.drop_succ_cons, List.take_succ_cons, List.take_zero, List.cons.injEq, and_true] at h0 h1
    subst h0; subst h1
    exact ⟨⟨r, c⟩, rfl⟩

/-- A slice of timers that came in. -/
theorem open_timers {v : Value} {d : DataW H} {p : List MemPlace} {r : Reach} {b0 : Nat} (hv : Value.okWide Try.prog w r b0 22 v) (h : DataW.Trod enc Try.prog w base (fun _ => true) held 22 v d p) :
    InT w v := by
  obtain ⟨a0, len, cap, rfl⟩ := okWide_slice Try.underlying22 hv
  obtain ⟨fuel, hf⟩ := h
  rcases open_slice Try.underlying22 hf with ⟨hcs, _⟩ | ⟨a, len', cap', m, n, D, Pl, hcs, hb, hl, hm, hmm, _, hi⟩
  · left
    simp [Value.cells] at hcs
    obtain ⟨rfl, rfl, rfl⟩ := hcs; rfl
  right
  simp [Value.cells] at hcs
  obtain ⟨rfl, rfl, rfl⟩ := hcs
  simp only [if_true] at hmm
  subst hmm
  rw [cells_timer] at hi
  have hx : ∀ i, ∃ y : T, i < len → ∀ j u, y.cells[j]? = some u → w.cell? ((a.add (i * 2)).add j) = some u := fun i => by
    by_cases hlt : i < len
    · obtain ⟨cs, hc, ht⟩ := hi i (by omega)
      obtain ⟨y, rfl⟩ := open_timer ht
      obtain ⟨_, _, hat⟩ := World.cells?_some hc
      exact ⟨y, fun _ j u hj => (hat j ((List.getElem?_eq_some_iff.1 hj).1)).trans hj⟩
    · exact ⟨default, fun h => absurd h hlt⟩
  refine ⟨a, (List.range len).map fun i => Classical.choose (hx i), m, by simp, by simpa using hl, hm, fun hn => ?_⟩
  have hpos : 0 < len := by
    rcases Nat.eq_zero_or_pos len with h0 | h0
    · subst h0; exact absurd rfl hn
    · exact h0
  obtain ⟨b, o, spot⟩ := a
  have h0 := Classical.choose_spec (hx 0) hpos 0 _ rfl
  have hspot : spot = none := by simpa [Addr.add] using World.cell?_spot h0
  subst hspot
  have hadd : ∀ i j, ((⟨b, o, none⟩ : Addr).add i).add j = ⟨b, o + i + j, none⟩ := fun i j => by
    unfold Addr.add
    by_cases h1 : i = 0 <;> by_cases h2 : j = 0 <;> simp [h1, h2]
  have hbw : b < w.heap.size := by
    have := h0
    rw [hadd] at this
    exact block_lt_of_cell this
  refine ⟨b, o, rfl, hbw, fun k cs hk j u hj => ?_⟩
  rw [List.getElem?_map, List.getElem?_map] at hk
  obtain ⟨y, hy, rfl⟩ := Option.map_eq_some_iff.1 hk
  obtain ⟨i, hi', rfl⟩ := Option.map_eq_some_iff.1 hy
  have hkl : k < len := by simpa using (List.getElem?_eq_some_iff.1 hi').1
  obtain rfl : k = i := by
    rw [List.getElem?_range hkl] at hi'; injection hi'
  have := Classical.choose_spec (hx k) hkl j u hj
  rw [hadd] at this
  exact this
end


/-- few, of what comes in. -/
def Few (w : World) (e : Ending) (w' : World) : Prop := ∃ A n c l, e = .returned (.slice A n c) ∧ RowT w A n c l ∧ l.length ≤ 70 ∧ w = w'
theorem few_in {v : Value} {w : World} (h : InT w v) : Calls Try.prog 7 #[v] w (Few w) := by
  rcases h with rfl | ⟨a, L, cap, rfl, hL, hc, hS⟩
  · exact (few_nil w).mono fun _ _ ⟨h1, h2⟩ => ⟨none, 0, 0, [], h1, ⟨rfl, Sl.nil, Nat.le_refl _, fun _ => rfl⟩, by simp, h2⟩
  · refine (few_any a L.length cap w hL hc).mono fun _ _ ⟨h1, h2⟩ => ⟨some a, min L.length 70, cap, L.take 70, h1, ⟨by rw [List.length_take]; omega, SlT.take hS 70, by omega, fun h => by cases h⟩, by rw [List.length_take]; omega, h2⟩
end Go.Proofs.Ytdieoecpacplmaa.WheelP
