/-
  A queue as it comes in; few of it.
-/
import Derived.Test.YtimpngmmmoaejaaQueueF
import Derived.Lib.SmallJoins
namespace Go.Proofs.Ytimpngmmmoaejaa.StrP
open Go.RowKit Go.Sort Go.Proofs.Ytimpngmmmoaejaa.SliceP Go.Proofs.Ytimpngmmmoaejaa.BoxP Go.ChangeShapes Go.WideShapes Go.Deep
set_option linter.unusedVariables false
set_option maxRecDepth 100000

section
variable {H : Type} {enc : TypeId × Value → H} {w : World} {base : Nat} {spare : Nat → Bool} {held : Bool}
theorem cells_str : Try.prog.cellsOf 9 = 1 := by kernel_rfl
theorem open_str1 {n : Nat} {cs : List Value} {x : DataW H × List MemPlace} (h : DataW.trod enc Try.prog w base spare held n 9 cs = some x) : ∃ y : ByteArray, cs = [.string y] ∧ y.size ≤ maxLen := by
  obtain ⟨r, h0, _, h1⟩ := DataW.trod_string Try.underlying9 h
  exact ⟨r, h0, h1⟩
theorem open_strs {n : Nat} {ws : List Value} {x : DataW H × List MemPlace} (h : DataW.trod enc Try.prog w base (fun _ => true) held n 22 ws = some x) :
    ∃ A m c l, ws = [.slice A m c] ∧ RowS w A m c l ∧ (∀ y ∈ l, y.size ≤ maxLen) ∧ c ≤ 9223372036854775807 := by
  rcases open_slice Try.underlying22 h with ⟨hcs, _⟩ | ⟨a, len', cap', m, n, D, Pl, hcs, hb, hl, hm, hmm, _, hi⟩
  · exact ⟨none, 0, 0, [], hcs, RowS.empty w, (fun _ h => by cases h), by omega⟩
  simp only [if_true] at hmm
  subst hmm
  rw [cells_str] at hi
  have hx : ∀ i, ∃ y : ByteArray, i < len' → w.cell? (a.add i) = some (.string y) ∧ y.size ≤ maxLen := fun i => by
    by_cases hlt : i < len'
    · obtain ⟨cs, hc, ht⟩ := hi i (by omega)
      obtain ⟨y, rfl, hy⟩ := open_str1 ht
      obtain ⟨_, _, hat⟩ := World.cells?_some hc
      refine ⟨y, fun _ => ⟨?_, hy⟩⟩
      have := hat 0 (by simp)
      simpa [Addr.add] using this
    · exact ⟨default, fun h => absurd h hlt⟩
  refine ⟨some a, len', m, (List.range len').map fun i => Classical.choose (hx i), hcs, ⟨by simp, ?_, by simpa using hl, fun e => by cases e⟩, ?_, hm⟩
  · intro hn
    have hpos : 0 < len' := by
      rcases Nat.eq_zero_or_pos len' with h0 | h0
      · subst h0; exact absurd rfl hn
      · exact h0
    obtain ⟨b, o, spot⟩ := a
    have h0 := (Classical.choose_spec (hx 0) hpos).1
    have hspot : spot = none := by simpa [Addr.add] using World.cell?_spot h0
    subst hspot
    have hadd : ∀ i, ((⟨b, o, none⟩ : Addr).add i) = ⟨b, o + i, none⟩ := fun i => by
      unfold Addr.add
      by_cases h1 : i = 0 <;> simp [h1]
    have hbw : b < w.heap.size := by
      obtain ⟨y0, hy0⟩ : ∃ y0, w.cell? ((⟨b, o, none⟩ : Addr).add 0) = some y0 := ⟨_, h0⟩
      rw [hadd] at hy0
      exact block_lt_of_cell hy0
    refine ⟨b, o, rfl, hbw, fun k cs hk j u hj => ?_⟩
    unfold cS at hk
    rw [List.getElem?_map, List.getElem?_map] at hk
    obtain ⟨y, hy, rfl⟩ := Option.map_eq_some_iff.1 hk
    obtain ⟨i, hi', rfl⟩ := Option.map_eq_some_iff.1 hy
    have hkl : k < len' := by simpa using (List.getElem?_eq_some_iff.1 hi').1
    obtain rfl : k = i := by
      rw [List.getElem?_range hkl] at hi'; injection hi'
    have := (Classical.choose_spec (hx k) hkl).1
    match j, hj with
    | 0, hj =>
      simp at hj
      subst hj
      rw [Nat.mul_one, Nat.add_zero]
      exact (congrArg w.cell? (hadd k)).symm.trans this
    | j + 1, hj => simp at hj
  · intro y hy
    obtain ⟨i, hi', rfl⟩ := List.mem_map.1 hy
    exact (Classical.choose_spec (hx i) (List.mem_range.1 hi')).2
/-- A queue that comes in. -/
def InQ (w : World) (v : Value) : Prop := ∃ A n c l cap lost, v = qv cap (.slice A n c) lost ∧ RowS w A n c l ∧ (∀ y ∈ l, y.size ≤ maxLen) ∧ c ≤ 9223372036854775807
theorem open_queue {v : Value} {d : DataW H} {p : List MemPlace} {r : Reach} {b0 : Nat} (hv : Value.okWide Try.prog w r b0 24 v) (h : DataW.Trod enc Try.prog w base (fun _ => true) held 24 v d p) :
    InQ w v := by
  obtain ⟨v0, v1, v2, y0, y1, y2, n, rfl, _, _, h0, h1, h2⟩ := Joins.open_agg3 Try.underlying24 (by kernel_rfl) (by kernel_rfl) hv h
  obtain ⟨A, n', c, l, hcs, hT, hS, hc⟩ := open_strs h1
  obtain ⟨cap, hs, _⟩ := DataW.trod_int Try.underlying3 h0
  obtain ⟨lost, hg, _⟩ := DataW.trod_int Try.underlying3 h2
  obtain rfl := List.singleton_inj.1 hcs
  obtain rfl := List.singleton_inj.1 hs
  obtain rfl := List.singleton_inj.1 hg
  exact ⟨A, n', c, l, cap, lost, rfl, hT, hS, hc⟩
end
def fewS (l : List ByteArray) : List ByteArray := (l.take 40).map cutS
theorem cutS_size (x : ByteArray) : (cutS x).size ≤ 130 := by
  unfold cutS
  split
  · assumption
  · rw [ByteArray.size_extract]; omega
theorem fewS_small (l : List ByteArray) : (fewS l).length ≤ 40 ∧ ∀ x ∈ fewS l, x.size ≤ 130 := by
  refine ⟨by unfold fewS; rw [List.length_map, List.length_take]; omega, fun x hx => ?_⟩
  unfold fewS at hx
  obtain ⟨y, _, rfl⟩ := List.mem_map.1 hx
  exact cutS_size y
/-- few, of a queue that comes in. -/
def FewQ (w : World) (l : List ByteArray) (cap lost : Int) (e : Ending) (w' : World) : Prop := ∃ A c, e = .returned (qv cap (.slice A (fewS l).length c) lost) ∧ OwnS w' w.heap.size (.slice A (fewS l).length c) (fewS l) ∧ Below w.heap.size w w'
set_option maxHeartbeats 4000000 in
theorem few_none (cap lost : Int) (w : World) : Calls Try.prog 5 #[qv cap (.slice none 0 0) lost] w (FewQ w [] cap lost) := by
  go_enter Try.func5, Try.ntmps5
  go_wp2_with fail
  go_loopw [3, 14] (fun v i wr => v = .slice none 0 0 ∧ i = .int .i64 0 ∧ wr = (w.alloc (qo cap (.slice none 0 0) lost)).alloc (qo 0 (.slice none 0 0) 0)) (fun _ i _ => 0)
  case atStart => exact ⟨rfl, rfl, rfl⟩
  case round =>
    obtain ⟨rfl, rfl, rfl⟩ := hrel
    go_wp2_with fail
    refine bodyPost_ret (v := qv cap (.slice none 0 0) lost) (by simp [results, Try.results5, go_sem]) rfl ⟨none, 0, rfl, Own.nil _ _ _ _, ((Below.refl _ _).alloc (Nat.le_refl _) _).alloc (by simp) _⟩
set_option maxHeartbeats 4000000 in
theorem few_zero (a : Addr) (c : Nat) (cap lost : Int) (w : World) : Calls Try.prog 5 #[qv cap (.slice (some a) 0 c) lost] w (FewQ w [] cap lost) := by
  go_enter Try.func5, Try.ntmps5
  go_wp2_with fail
  go_loopw [3, 14] (fun v i wr => v = .slice none 0 0 ∧ i = .int .i64 0 ∧ wr = (w.alloc (qo cap (.slice (some a) 0 c) lost)).alloc (qo 0 (.slice none 0 0) 0)) (fun _ i _ => 0)
  case atStart => exact ⟨rfl, rfl, rfl⟩
  case round =>
    obtain ⟨rfl, rfl, rfl⟩ := hrel
    go_wp2_with fail
    refine bodyPost_ret (v := qv cap (.slice none 0 0) lost) (by simp [results, Try.results5, go_sem]) rfl ⟨none, 0, rfl, Own.nil _ _ _ _, ((Below.refl _ _).alloc (Nat.le_refl _) _).alloc (by simp) _⟩
theorem few_at {A : Option Addr} {n c : Nat} {l : List ByteArray} (cap lost : Int) {w : World} (hT : RowS w A n c l) (hS : ∀ y ∈ l, y.size ≤ maxLen) (hc : c ≤ 9223372036854775807) : Calls Try.prog 5 #[qv cap (.slice A n c) lost] w (FewQ w l cap lost) := by
  cases A with
  | none =>
    obtain rfl := hT.nil rfl
    obtain rfl : n = 0 := by have := hT.cap; omega
    obtain rfl : l = [] := List.length_eq_zero_iff.1 hT.len.symm
    exact few_none cap lost w
  | some a =>
    by_cases hl : l = []
    · subst hl
      obtain rfl := hT.len
      exact few_zero a c cap lost w
    · obtain ⟨b, o, e, _⟩ := hT.sl (by unfold cS; simpa using hl)
      obtain rfl := Option.some.inj e
      exact few_some cap lost hT (fun x hx => by have := hS x hx; unfold maxLen at this; omega) hc
end Go.Proofs.Ytimpngmmmoaejaa.StrP
