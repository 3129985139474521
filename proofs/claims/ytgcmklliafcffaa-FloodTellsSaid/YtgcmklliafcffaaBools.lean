/-
  Rows of bools: read, owned, handed back, come in.
-/
import Derived.Test.YtgcmklliafcffaaOwn
import Derived.Deep.QuietTactic
import Derived.Deep.Slices
import Derived.WideShapes
import Derived.Carry
import Derived.Lib.QuietBelow
import Derived.LoopTactic
namespace Go.Proofs.Ytgcmklliafcffaa.BoolP
open Go.RowKit Go.Sort Go.Proofs.Ytgcmklliafcffaa.SliceP Go.ChangeShapes Go.WideShapes Go.Deep
set_option linter.unusedVariables false
set_option maxRecDepth 100000

def cB (l : List Bool) : List (List Value) := l.map fun x => [.bool x]
abbrev SlB (w : World) (A : Option Addr) (l : List Bool) : Prop := Sl w 1 A (cB l)
abbrev OwnB (w : World) (B : Nat) (v : Value) (l : List Bool) : Prop := Own w B 4 1 v (cB l)
theorem elB : ElemT Try.prog 44 4 1 := ElemT.mk' (z := .bool false) (bytes := 1) Try.underlying44 (by kernel_rfl) (by decide) rfl (by decide)
theorem cB_length (l : List Bool) : (cB l).length = l.length := by simp [cB]
theorem cB_append (l m : List Bool) : cB (l ++ m) = cB l ++ cB m := by simp [cB]
theorem cB_take (l : List Bool) (n : Nat) : (cB l).take n = cB (l.take n) := by simp [cB, List.map_take]
theorem cB_drop (l : List Bool) (n : Nat) : (cB l).drop n = cB (l.drop n) := by simp [cB, List.map_drop]
theorem cB_flat (l : List Bool) : (cB l).flatten = l.map (Value.bool) := by
  induction l with
  | nil => rfl
  | cons x r ih => show [Value.bool x] ++ (cB r).flatten = _; rw [ih]; rfl
theorem whole (l : List Bool) : Whole 1 (cB l) := fun cs hc => by
  obtain ⟨x, _, rfl⟩ := List.mem_map.1 hc
  exact ⟨rfl, fun u hu => by simp at hu; subst hu; rfl⟩
theorem SlB.at_ {w : World} {A : Option Addr} {l : List Bool} (h : SlB w A l) {k : Nat} {x : Bool} (hk : l[k]? = some x) : ∃ b o, A = some ⟨b, o, none⟩ ∧ b < w.heap.size ∧
    w.cell? ⟨b, o + k, none⟩ = some (.bool x) := by
  obtain ⟨b, o, rfl, hb, hx⟩ := Sl.at_ h (k := k) (cs := [.bool x]) (by unfold cB; rw [List.getElem?_map, hk]; rfl)
  refine ⟨b, o, rfl, hb, ?_⟩
  have := hx 0 _ rfl
  rwa [Nat.mul_one, Nat.add_zero] at this
theorem SlB.take {w : World} {A : Option Addr} {l : List Bool} (h : SlB w A l) (n : Nat) : SlB w A (l.take n) := by
  have := Sl.take h n
  rwa [cB_take] at this
theorem SlB.drop {w : World} {b o : Nat} {l : List Bool} (h : SlB w (some ⟨b, o, none⟩) l) (n : Nat) : SlB w (some ⟨b, o + n, none⟩) (l.drop n) := by
  have := Sl.drop h n
  rwa [cB_drop, Nat.mul_one] at this
theorem SlB.below {w w' : World} {A : Option Addr} {l : List Bool} (h : SlB w A l) (hb : Below w.heap.size w w') : SlB w' A l := Sl.below h hb
theorem SlB.one (W : World) (x : Bool) (n : Nat) (hn : W.heap.size = n) : SlB (W.alloc (.cells #[.bool x] 4)) (some ⟨n, 0, none⟩) [x] := fun _ => by
  subst hn
  refine ⟨W.heap.size, 0, rfl, by simp, fun k cs hk j v hj => ?_⟩
  match k, hk with
  | 0, hk =>
    obtain rfl : [Value.bool x] = cs := by simpa [cB] using hk
    match j, hj with
    | 0, hj => simp at hj; subst hj; go_simp
    | j + 1, hj => simp at hj
  | k + 1, hk => simp [cB] at hk

/-- A row that is read, with room for what it holds. -/
structure RowB (w : World) (A : Option Addr) (n c : Nat) (l : List Bool) : Prop where
  len : n = l.length
  sl : SlB w A l
  cap : n ≤ c
  nil : A = none → c = 0
theorem RowB.below {w w' : World} {A : Option Addr} {n c : Nat} {l : List Bool} (h : RowB w A n c l) (hb : Below w.heap.size w w') : RowB w' A n c l := ⟨h.len, h.sl.below hb, h.cap, h.nil⟩
theorem RowB.empty (w : World) : RowB w none 0 0 [] := ⟨rfl, Sl.nil, Nat.le_refl _, fun _ => rfl⟩
theorem RowB.take {w : World} {A : Option Addr} {n c : Nat} {l : List Bool} (h : RowB w A n c l) (k : Nat) (hk : k ≤ l.length) : RowB w A k c (l.take k) :=
  ⟨by rw [List.length_take]; omega, h.sl.take k, by have := h.len; have := h.cap; omega, h.nil⟩
theorem own_row {w : World} {B : Nat} {A : Option Addr} {n c : Nat} {l : List Bool} (h : OwnB w B (.slice A n c) l) : RowB w A n c l := by
  obtain ⟨A', c', hv, h1, _, hA⟩ := h.form
  have hsl := h.sl (by decide)
  injection hv with e1 e2 e3
  subst e1; subst e3
  rw [cB_length] at e2 h1
  refine ⟨e2, hsl, by omega, fun hn => ?_⟩
  rcases hA with ⟨_, _, h0⟩ | ⟨g, h1, _⟩
  · exact h0
  · rw [hn] at h1; cases h1
theorem OwnB.form' {w : World} {B : Nat} {v : Value} {l : List Bool} (h : OwnB w B v l) : ∃ A c, v = .slice A l.length c := by
  obtain ⟨A, c, rfl, _⟩ := h.form
  exact ⟨A, c, by rw [cB_length]⟩
theorem own_lit (W : World) (cs : Array Value) (l : List Bool) (B n : Nat) (hB : B ≤ W.heap.size) (hn : n = l.length) (hc : cs.toList = (cB l).flatten) (hl : l.length ≤ 1000000) :
    OwnB (W.alloc (.cells cs 4)) B (.slice (some ⟨W.heap.size, 0, none⟩) n n) l := by
  subst hn
  refine ⟨?_, whole l⟩
  have hs : cs.size = l.length * 1 := by rw [← Array.length_toList, hc, cB_flat]; simp
  have := World.ownsRow_lit (base := B) (e := 4) (size := 1) W cs l.length hB (by unfold maxLen; omega) hs
  rw [hc] at this
  rw [cB_length]
  exact this
theorem row_lit (W : World) (cs : Array Value) (l : List Bool) (n : Nat) (hn : n = l.length) (hc : cs.toList = (cB l).flatten) (hl : l.length ≤ 1000000) :
    RowB (W.alloc (.cells cs 4)) (some ⟨W.heap.size, 0, none⟩) n n l := own_row (own_lit W cs l W.heap.size n (Nat.le_refl _) hn hc hl)

/-- A row of bools, new, is handed back. -/
theorem bt {w a b : World} (h1 : Below w.heap.size w a) (h2 : Below a.heap.size a b) : Below w.heap.size w b := h1.trans (h2.mono h1.size)
def True1 (w : World) (e : Ending) (w' : World) : Prop := e = .returned (.bool true) ∧ Below w.heap.size w w'

/-- A slice of bools as it comes in. -/
def InB (w : World) (v : Value) : Prop := v = .slice none 0 0 ∨ ∃ (a : Addr) (L : List Bool) (cap : Nat), v = .slice (some a) L.length cap ∧ L.length ≤ cap ∧ cap ≤ 9223372036854775807 ∧ SlB w (some a) L
theorem InB.below {w w' : World} {v : Value} (h : InB w v) (hb : Below w.heap.size w w') : InB w' v := by
  rcases h with rfl | ⟨a, L, cap, rfl, h1, h2, h3⟩
  · exact .inl rfl
  · exact .inr ⟨a, L, cap, rfl, h1, h2, h3.below hb⟩
section
variable {H : Type} {enc : TypeId × Value → H} {w : World} {base : Nat} {spare : Nat → Bool} {held : Bool}
theorem cells_bool : Try.prog.cellsOf 4 = 1 := by kernel_rfl
theorem open_bool1 {n : Nat} {cs : List Value} {x : DataW H × List MemPlace} (h : DataW.trod enc Try.prog w base spare held n 4 cs = some x) : ∃ y : Bool, cs = [.bool y] := by
  obtain ⟨r, h0, _⟩ := DataW.trod_bool Try.underlying4 h
  exact ⟨r, h0⟩
/-- A slice of bools that came in. -/
theorem open_row {v : Value} {d : DataW H} {p : List MemPlace} {r : Reach} {b0 : Nat} (hv : Value.okWide Try.prog w r b0 44 v) (h : DataW.Trod enc Try.prog w base (fun _ => true) held 44 v d p) :
    InB w v := by
  obtain ⟨a0, len, cap, rfl⟩ := okWide_slice Try.underlying44 hv
  obtain ⟨fuel, hf⟩ := h
  rcases open_slice Try.underlying44 hf with ⟨hcs, _⟩ | ⟨a, len', cap', m, n, D, Pl, hcs, hb, hl, hm, hmm, _, hi⟩
  · left
    simp [Value.cells] at hcs
    obtain ⟨rfl, rfl, rfl⟩ := hcs; rfl
  right
  simp [Value.cells] at hcs
  obtain ⟨rfl, rfl, rfl⟩ := hcs
  simp only [if_true] at hmm
  subst hmm
  rw [cells_bool] at hi
  have hx : ∀ i, ∃ y : Bool, i < len → w.cell? (a.add i) = some (.bool y) := fun i => by
    by_cases hlt : i < len
    · obtain ⟨cs, hc, ht⟩ := hi i (by omega)
      obtain ⟨y, rfl⟩ := open_bool1 ht
      obtain ⟨_, _, hat⟩ := World.cells?_some hc
      refine ⟨y, fun _ => ?_⟩
      have := hat 0 (by simp)
      simpa [Addr.add] using this
    · exact ⟨default, fun h => absurd h hlt⟩
  refine ⟨a, (List.range len).map fun i => Classical.choose (hx i), m, by simp, by simpa using hl, hm, fun hn => ?_⟩
  have hpos : 0 < len := by
    rcases Nat.eq_zero_or_pos len with h0 | h0
    · subst h0; exact absurd rfl hn
    · exact h0
  obtain ⟨b, o, spot⟩ := a
  have h0 := Classical.choose_spec (hx 0) hpos
  have hspot : spot = none := by simpa [Addr.add] using World.cell?_spot h0
  subst hspot
  have hadd : ∀ i, ((⟨b, o, none⟩ : Addr).add i) = ⟨b, o + i, none⟩ := fun i => by
    unfold Addr.add
    by_cases h1 : i = 0 <;> simp [h1]
  have hbw : b < w.heap.size := by
    obtain ⟨y0, hy0⟩ : ∃ y0, w.cell? ((⟨b, o, none⟩ : Addr).add 0) = some y0 := ⟨_, h0⟩
    rw [hadd] at hy0
    exact block_lt_of_cell hy0
  refine ⟨b, o, rfl, hbw, fun k cs hk j u hj => ?_⟩
  unfold cB at hk
  rw [List.getElem?_map, List.getElem?_map] at hk
  obtain ⟨y, hy, rfl⟩ := Option.map_eq_some_iff.1 hk
  obtain ⟨i, hi', rfl⟩ := Option.map_eq_some_iff.1 hy
  have hkl : k < len := by simpa using (List.getElem?_eq_some_iff.1 hi').1
  obtain rfl : k = i := by
    rw [List.getElem?_range hkl] at hi'; injection hi'
  have := Classical.choose_spec (hx k) hkl
  match j, hj with
  | 0, hj =>
    simp at hj
    subst hj
    rw [Nat.mul_one, Nat.add_zero]
    exact (congrArg w.cell? (hadd k)).symm.trans this
  | j + 1, hj => simp at hj
end

end Go.Proofs.Ytgcmklliafcffaa.BoolP
