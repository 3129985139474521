/-
  Rows of ints: read, owned, handed back, come in.
-/
import Derived.Test.YtgcmklliafcffaaOwn
import Derived.Deep.QuietTactic
import Derived.Deep.Slices
import Derived.WideShapes
import Derived.Carry
import Derived.Lib.QuietBelow
import Derived.LoopTactic
namespace Go.Proofs.Ytgcmklliafcffaa.IntP
open Go.RowKit Go.Sort Go.Proofs.Ytgcmklliafcffaa.SliceP Go.ChangeShapes Go.WideShapes Go.Deep
set_option linter.unusedVariables false
set_option maxRecDepth 100000

def cI (l : List Int) : List (List Value) := l.map fun x => [.int .i64 x]
abbrev SlI (w : World) (A : Option Addr) (l : List Int) : Prop := Sl w 1 A (cI l)
abbrev OwnI (w : World) (B : Nat) (v : Value) (l : List Int) : Prop := Own w B 3 1 v (cI l)
theorem elI : ElemT Try.prog 43 3 1 := ElemT.mk' (z := .int .i64 0) (bytes := 8) Try.underlying43 (by kernel_rfl) (by decide) rfl (by decide)
theorem cI_length (l : List Int) : (cI l).length = l.length := by simp [cI]
theorem cI_append (l m : List Int) : cI (l ++ m) = cI l ++ cI m := by simp [cI]
theorem cI_take (l : List Int) (n : Nat) : (cI l).take n = cI (l.take n) := by simp [cI, List.map_take]
theorem cI_drop (l : List Int) (n : Nat) : (cI l).drop n = cI (l.drop n) := by simp [cI, List.map_drop]
theorem cI_flat (l : List Int) : (cI l).flatten = l.map (Value.int .i64) := by
  induction l with
  | nil => rfl
  | cons x r ih => show [Value.int .i64 x] ++ (cI r).flatten = _; rw [ih]; rfl
theorem whole (l : List Int) : Whole 1 (cI l) := fun cs hc => by
  obtain ⟨x, _, rfl⟩ := List.mem_map.1 hc
  exact ⟨rfl, fun u hu => by simp at hu; subst hu; rfl⟩
theorem SlI.at_ {w : World} {A : Option Addr} {l : List Int} (h : SlI w A l) {k : Nat} {x : Int} (hk : l[k]? = some x) : ∃ b o, A = some ⟨b, o, none⟩ ∧ b < w.heap.size ∧
    w.cell? ⟨b, o + k, none⟩ = some (.int .i64 x) := by
  obtain ⟨b, o, rfl, hb, hx⟩ := Sl.at_ h (k := k) (cs := [.int .i64 x]) (by unfold cI; rw [List.getElem?_map, hk]; rfl)
  refine ⟨b, o, rfl, hb, ?_⟩
  have := hx 0 _ rfl
  rwa [Nat.mul_one, Nat.add_zero] at this
theorem SlI.take {w : World} {A : Option Addr} {l : List Int} (h : SlI w A l) (n : Nat) : SlI w A (l.take n) := by
  have := Sl.take h n
  rwa [cI_take] at this
theorem SlI.drop {w : World} {b o : Nat} {l : List Int} (h : SlI w (some ⟨b, o, none⟩) l) (n : Nat) : SlI w (some ⟨b, o + n, none⟩) (l.drop n) := by
  have := Sl.drop h n
  rwa [cI_drop, Nat.mul_one] at this
theorem SlI.below {w w' : World} {A : Option Addr} {l : List Int} (h : SlI w A l) (hb : Below w.heap.size w w') : SlI w' A l := Sl.below h hb
theorem SlI.one (W : World) (x : Int) (n : Nat) (hn : W.heap.size = n) : SlI (W.alloc (.cells #[.int .i64 x] 3)) (some ⟨n, 0, none⟩) [x] := fun _ => by
  subst hn
  refine ⟨W.heap.size, 0, rfl, by simp, fun k cs hk j v hj => ?_⟩
  match k, hk with
  | 0, hk =>
    obtain rfl : [Value.int .i64 x] = cs := by simpa [cI] using hk
    match j, hj with
    | 0, hj => simp at hj; subst hj; go_simp
    | j + 1, hj => simp at hj
  | k + 1, hk => simp [cI] at hk

/-- A row that is read, with room for what it holds. -/
structure RowI (w : World) (A : Option Addr) (n c : Nat) (l : List Int) : Prop where
  len : n = l.length
  sl : SlI w A l
  cap : n ≤ c
  nil : A = none → c = 0
theorem RowI.below {w w' : World} {A : Option Addr} {n c : Nat} {l : List Int} (h : RowI w A n c l) (hb : Below w.heap.size w w') : RowI w' A n c l := ⟨h.len, h.sl.below hb, h.cap, h.nil⟩
theorem RowI.empty (w : World) : RowI w none 0 0 [] := ⟨rfl, Sl.nil, Nat.le_refl _, fun _ => rfl⟩
theorem RowI.take {w : World} {A : Option Addr} {n c : Nat} {l : List Int} (h : RowI w A n c l) (k : Nat) (hk : k ≤ l.length) : RowI w A k c (l.take k) :=
  ⟨by rw [List.length_take]; omega, h.sl.take k, by have := h.len; have := h.cap; omega, h.nil⟩
theorem own_row {w : World} {B : Nat} {A : Option Addr} {n c : Nat} {l : List Int} (h : OwnI w B (.slice A n c) l) : RowI w A n c l := by
  obtain ⟨A', c', hv, h1, _, hA⟩ := h.form
  have hsl := h.sl (by decide)
  injection hv with e1 e2 e3
  subst e1; subst e3
  rw [cI_length] at e2 h1
  refine ⟨e2, hsl, by omega, fun hn => ?_⟩
  rcases hA with ⟨_, _, h0⟩ | ⟨g, h1, _⟩
  · exact h0
  · rw [hn] at h1; cases h1
theorem OwnI.form' {w : World} {B : Nat} {v : Value} {l : List Int} (h : OwnI w B v l) : ∃ A c, v = .slice A l.length c := by
  obtain ⟨A, c, rfl, _⟩ := h.form
  exact ⟨A, c, by rw [cI_length]⟩
theorem own_lit (W : World) (cs : Array Value) (l : List Int) (B n : Nat) (hB : B ≤ W.heap.size) (hn : n = l.length) (hc : cs.toList = (cI l).flatten) (hl : l.length ≤ 1000000) :
    OwnI (W.alloc (.cells cs 3)) B (.slice (some ⟨W.heap.size, 0, none⟩) n n) l := by
  subst hn
  refine ⟨?_, whole l⟩
  have hs : cs.size = l.length * 1 := by rw [← Array.length_toList, hc, cI_flat]; simp
  have := World.ownsRow_lit (base := B) (e := 3) (size := 1) W cs l.length hB (by unfold maxLen; omega) hs
  rw [hc] at this
  rw [cI_length]
  exact this
theorem row_lit (W : World) (cs : Array Value) (l : List Int) (n : Nat) (hn : n = l.length) (hc : cs.toList = (cI l).flatten) (hl : l.length ≤ 1000000) :
    RowI (W.alloc (.cells cs 3)) (some ⟨W.heap.size, 0, none⟩) n n l := own_row (own_lit W cs l W.heap.size n (Nat.le_refl _) hn hc hl)

/-- A row of ints, new, is handed back. -/
def RetI (w : World) (l : List Int) (e : Ending) (w' : World) : Prop :=
  ∃ A c, e = .returned (.slice A l.length c) ∧ OwnI w' w.heap.size (.slice A l.length c) l ∧ Below w.heap.size w w'
theorem retI {w w' : World} {v : Value} {l : List Int} (h : OwnI w' w.heap.size v l) (hb : Below w.heap.size w w') : RetI w l (.returned v) w' := by
  obtain ⟨A, c, rfl⟩ := OwnI.form' h
  exact ⟨A, c, rfl, h, hb⟩
/-- .. and a number. -/
def Ret1 (w : World) (l : List Int) (n : Int) (e : Ending) (w' : World) : Prop :=
  ∃ A c, e = .returned (.tuple #[.slice A l.length c, .int .i64 n]) ∧ OwnI w' w.heap.size (.slice A l.length c) l ∧ Below w.heap.size w w'
theorem ret1 {w w' : World} {v : Value} {l : List Int} {n : Int} (h : OwnI w' w.heap.size v l) (hb : Below w.heap.size w w') : Ret1 w l n (.returned (.tuple #[v, .int .i64 n])) w' := by
  obtain ⟨A, c, rfl⟩ := OwnI.form' h
  exact ⟨A, c, rfl, h, hb⟩
theorem ret1_nil {w w' : World} {n : Int} (hb : Below w.heap.size w w') : Ret1 w [] n (.returned (.tuple #[.slice none 0 0, .int .i64 n])) w' := ⟨none, 0, rfl, Own.nil _ _ _ _, hb⟩
/-- Two rows, and a number. -/
def Ret2 (w : World) (l m : List Int) (n : Int) (e : Ending) (w' : World) : Prop :=
  ∃ A c A' c', e = .returned (.tuple #[.slice A l.length c, .slice A' m.length c', .int .i64 n]) ∧ OwnI w' w.heap.size (.slice A l.length c) l ∧ OwnI w' w.heap.size (.slice A' m.length c') m ∧ Below w.heap.size w w'
theorem ret2_nil {w w' : World} {n : Int} (hb : Below w.heap.size w w') : Ret2 w [] [] n (.returned (.tuple #[.slice none 0 0, .slice none 0 0, .int .i64 n])) w' := ⟨none, 0, none, 0, rfl, Own.nil _ _ _ _, Own.nil _ _ _ _, hb⟩
theorem bt {w a b : World} (h1 : Below w.heap.size w a) (h2 : Below a.heap.size a b) : Below w.heap.size w b := h1.trans (h2.mono h1.size)
def True1 (w : World) (e : Ending) (w' : World) : Prop := e = .returned (.bool true) ∧ Below w.heap.size w w'

/-- A slice of ints as it comes in. -/
def InI (w : World) (v : Value) : Prop := v = .slice none 0 0 ∨ ∃ (a : Addr) (L : List Int) (cap : Nat), v = .slice (some a) L.length cap ∧ L.length ≤ cap ∧ cap ≤ 9223372036854775807 ∧ SlI w (some a) L
theorem InI.below {w w' : World} {v : Value} (h : InI w v) (hb : Below w.heap.size w w') : InI w' v := by
  rcases h with rfl | ⟨a, L, cap, rfl, h1, h2, h3⟩
  · exact .inl rfl
  · exact .inr ⟨a, L, cap, rfl, h1, h2, h3.below hb⟩
section
variable {H : Type} {enc : TypeId × Value → H} {w : World} {base : Nat} {spare : Nat → Bool} {held : Bool}
theorem cells_int : Try.prog.cellsOf 3 = 1 := by kernel_rfl
theorem open_int1 {n : Nat} {cs : List Value} {x : DataW H × List MemPlace} (h : DataW.trod enc Try.prog w base spare held n 3 cs = some x) : ∃ y : Int, cs = [.int .i64 y] := by
  obtain ⟨r, h0, _, _⟩ := DataW.trod_int Try.underlying3 h
  exact ⟨r, h0⟩
/-- A slice of ints that came in. -/
theorem open_row {v : Value} {d : DataW H} {p : List MemPlace} {r : Reach} {b0 : Nat} (hv : Value.okWide Try.prog w r b0 43 v) (h : DataW.Trod enc Try.prog w base (fun _ => true) held 43 v d p) :
    InI w v := by
  obtain ⟨a0, len, cap, rfl⟩ := okWide_slice Try.underlying43 hv
  obtain ⟨fuel, hf⟩ := h
  rcases open_slice Try.underlying43 hf with ⟨hcs, _⟩ | ⟨a, len', cap', m, n, D, Pl, hcs, hb, hl, hm, hmm, _, hi⟩
  · left
    simp [Value.cells] at hcs
    obtain ⟨rfl, rfl, rfl⟩ := hcs; rfl
  right
  simp [Value.cells] at hcs
  obtain ⟨rfl, rfl, rfl⟩ := hcs
  simp only [if_true] at hmm
  subst hmm
  rw [cells_int] at hi
  have hx : ∀ i, ∃ y : Int, i < len → w.cell? (a.add i) = some (.int .i64 y) := fun i => by
    by_cases hlt : i < len
    · obtain ⟨cs, hc, ht⟩ := hi i (by omega)
      obtain ⟨y, rfl⟩ := open_int1 ht
      obtain ⟨_, _, hat⟩ := World.cells?_some hc
      refine ⟨y, fun _ => ?_⟩
      have := hat 0 (by simp)
      simpa [Addr.add] using this
    · exact ⟨default, fun h => absurd h hlt⟩
  refine ⟨a, (List.range len).map fun i => Classical.choose (hx i), m, by simp, by simpa using hl, hm, fun hn => ?_⟩
  have hpos : 0 < len := by
    rcases Nat.eq_zero_or_pos len with h0 | h0
    · subst h0; exact absurd rfl hn
    · exact h0
  obtain ⟨b, o, spot⟩ := a
  have h0 := Classical.choose_spec (hx 0) hpos
  have hspot : spot = none := by simpa [Addr.add] using World.cell?_spot h0
  subst hspot
  have hadd : ∀ i, ((⟨b, o, none⟩ : Addr).add i) = ⟨b, o + i, none⟩ := fun i => by
    unfold Addr.add
    by_cases h1 : i = 0 <;> simp [h1]
  have hbw : b < w.heap.size := by
    obtain ⟨y0, hy0⟩ : ∃ y0, w.cell? ((⟨b, o, none⟩ : Addr).add 0) = some y0 := ⟨_, h0⟩
    rw [hadd] at hy0
    exact block_lt_of_cell hy0
  refine ⟨b, o, rfl, hbw, fun k cs hk j u hj => ?_⟩
  unfold cI at hk
  rw [List.getElem?_map, List.getElem?_map] at hk
  obtain ⟨y, hy, rfl⟩ := Option.map_eq_some_iff.1 hk
  obtain ⟨i, hi', rfl⟩ := Option.map_eq_some_iff.1 hy
  have hkl : k < len := by simpa using (List.getElem?_eq_some_iff.1 hi').1
  obtain rfl : k = i := by
    rw [List.getElem?_range hkl] at hi'; injection hi'
  have := Classical.choose_spec (hx k) hkl
  match j, hj with
  | 0, hj =>
    simp at hj
    subst hj
    rw [Nat.mul_one, Nat.add_zero]
    exact (congrArg w.cell? (hadd k)).symm.trans this
  | j + 1, hj => simp at hj
end

/-- few, of what comes in. -/
def Few (w : World) (e : Ending) (w' : World) : Prop := ∃ A n c l, e = .returned (.slice A n c) ∧ RowI w A n c l ∧ l.length ≤ 70 ∧ w = w'
end Go.Proofs.Ytgcmklliafcffaa.IntP
