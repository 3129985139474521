/-
  Rows of strings: read, owned, handed back.
-/
import Derived.Test.YtimpngmmmoaejaaOwn
import Derived.Deep.QuietTactic
import Derived.Deep.Slices
import Derived.WideShapes
import Derived.Carry
import Derived.Lib.QuietBelow
import Derived.LoopTactic
namespace Go.Proofs.Ytimpngmmmoaejaa.StrP
open Go.RowKit Go.Sort Go.Proofs.Ytimpngmmmoaejaa.SliceP Go.ChangeShapes Go.WideShapes Go.Deep
set_option linter.unusedVariables false
set_option maxRecDepth 100000

def cS (l : List ByteArray) : List (List Value) := l.map fun x => [.string x]
abbrev SlS (w : World) (A : Option Addr) (l : List ByteArray) : Prop := Sl w 1 A (cS l)
abbrev OwnS (w : World) (B : Nat) (v : Value) (l : List ByteArray) : Prop := Own w B 9 1 v (cS l)
theorem elS : ElemT Try.prog 22 9 1 := ElemT.mk' (z := .string ByteArray.empty) (bytes := 16) Try.underlying22 (by kernel_rfl) (by decide) rfl (by decide)
theorem cS_length (l : List ByteArray) : (cS l).length = l.length := by simp [cS]
theorem cS_append (l m : List ByteArray) : cS (l ++ m) = cS l ++ cS m := by simp [cS]
theorem cS_take (l : List ByteArray) (n : Nat) : (cS l).take n = cS (l.take n) := by simp [cS, List.map_take]
theorem cS_drop (l : List ByteArray) (n : Nat) : (cS l).drop n = cS (l.drop n) := by simp [cS, List.map_drop]
theorem cS_flat (l : List ByteArray) : (cS l).flatten = l.map (Value.string) := by
  induction l with
  | nil => rfl
  | cons x r ih => show [Value.string x] ++ (cS r).flatten = _; rw [ih]; rfl
theorem whole (l : List ByteArray) : Whole 1 (cS l) := fun cs hc => by
  obtain ⟨x, _, rfl⟩ := List.mem_map.1 hc
  exact ⟨rfl, fun u hu => by simp at hu; subst hu; rfl⟩
theorem SlS.at_ {w : World} {A : Option Addr} {l : List ByteArray} (h : SlS w A l) {k : Nat} {x : ByteArray} (hk : l[k]? = some x) : ∃ b o, A = some ⟨b, o, none⟩ ∧ b < w.heap.size ∧
    w.cell? ⟨b, o + k, none⟩ = some (.string x) := by
  obtain ⟨b, o, rfl, hb, hx⟩ := Sl.at_ h (k := k) (cs := [.string x]) (by unfold cS; rw [List.getElem?_map, hk]; rfl)
  refine ⟨b, o, rfl, hb, ?_⟩
  have := hx 0 _ rfl
  rwa [Nat.mul_one, Nat.add_zero] at this
theorem SlS.take {w : World} {A : Option Addr} {l : List ByteArray} (h : SlS w A l) (n : Nat) : SlS w A (l.take n) := by
  have := Sl.take h n
  rwa [cS_take] at this
theorem SlS.drop {w : World} {b o : Nat} {l : List ByteArray} (h : SlS w (some ⟨b, o, none⟩) l) (n : Nat) : SlS w (some ⟨b, o + n, none⟩) (l.drop n) := by
  have := Sl.drop h n
  rwa [cS_drop, Nat.mul_one] at this
theorem SlS.below {w w' : World} {A : Option Addr} {l : List ByteArray} (h : SlS w A l) (hb : Below w.heap.size w w') : SlS w' A l := Sl.below h hb
theorem SlS.one (W : World) (x : ByteArray) (n : Nat) (hn : W.heap.size = n) : SlS (W.alloc (.cells #[.string x] 9)) (some ⟨n, 0, none⟩) [x] := fun _ => by
  subst hn
  refine ⟨W.heap.size, 0, rfl, by simp, fun k cs hk j v hj => ?_⟩
  match k, hk with
  | 0, hk =>
    obtain rfl : [Value.string x] = cs := by simpa [cS] using hk
    match j, hj with
    | 0, hj => simp at hj; subst hj; go_simp
    | j + 1, hj => simp at hj
  | k + 1, hk => simp [cS] at hk

/-- A row that is read, with room for what it holds. -/
structure RowS (w : World) (A : Option Addr) (n c : Nat) (l : List ByteArray) : Prop where
  len : n = l.length
  sl : SlS w A l
  cap : n ≤ c
  nil : A = none → c = 0
theorem RowS.below {w w' : World} {A : Option Addr} {n c : Nat} {l : List ByteArray} (h : RowS w A n c l) (hb : Below w.heap.size w w') : RowS w' A n c l := ⟨h.len, h.sl.below hb, h.cap, h.nil⟩
theorem RowS.empty (w : World) : RowS w none 0 0 [] := ⟨rfl, Sl.nil, Nat.le_refl _, fun _ => rfl⟩
theorem RowS.take {w : World} {A : Option Addr} {n c : Nat} {l : List ByteArray} (h : RowS w A n c l) (k : Nat) (hk : k ≤ l.length) : RowS w A k c (l.take k) :=
  ⟨by rw [List.length_take]; omega, h.sl.take k, by have := h.len; have := h.cap; omega, h.nil⟩
theorem own_row {w : World} {B : Nat} {A : Option Addr} {n c : Nat} {l : List ByteArray} (h : OwnS w B (.slice A n c) l) : RowS w A n c l := by
  obtain ⟨A', c', hv, h1, _, hA⟩ := h.form
  have hsl := h.sl (by decide)
  injection hv with e1 e2 e3
  subst e1; subst e3
  rw [cS_length] at e2 h1
  refine ⟨e2, hsl, by omega, fun hn => ?_⟩
  rcases hA with ⟨_, _, h0⟩ | ⟨g, h1, _⟩
  · exact h0
  · rw [hn] at h1; cases h1
theorem OwnS.form' {w : World} {B : Nat} {v : Value} {l : List ByteArray} (h : OwnS w B v l) : ∃ A c, v = .slice A l.length c := by
  obtain ⟨A, c, rfl, _⟩ := h.form
  exact ⟨A, c, by rw [cS_length]⟩
theorem own_lit (W : World) (cs : Array Value) (l : List ByteArray) (B n : Nat) (hB : B ≤ W.heap.size) (hn : n = l.length) (hc : cs.toList = (cS l).flatten) (hl : l.length ≤ 1000000) :
    OwnS (W.alloc (.cells cs 9)) B (.slice (some ⟨W.heap.size, 0, none⟩) n n) l := by
  subst hn
  refine ⟨?_, whole l⟩
  have hs : cs.size = l.length * 1 := by rw [← Array.length_toList, hc, cS_flat]; simp
  have := World.ownsRow_lit (base := B) (e := 9) (size := 1) W cs l.length hB (by unfold maxLen; omega) hs
  rw [hc] at this
  rw [cS_length]
  exact this
theorem row_lit (W : World) (cs : Array Value) (l : List ByteArray) (n : Nat) (hn : n = l.length) (hc : cs.toList = (cS l).flatten) (hl : l.length ≤ 1000000) :
    RowS (W.alloc (.cells cs 9)) (some ⟨W.heap.size, 0, none⟩) n n l := own_row (own_lit W cs l W.heap.size n (Nat.le_refl _) hn hc hl)

theorem bt {w a b : World} (h1 : Below w.heap.size w a) (h2 : Below a.heap.size a b) : Below w.heap.size w b := h1.trans (h2.mono h1.size)
theorem sl_one (W : World) (x : ByteArray) (n : Nat) (hn : W.heap.size = n) : SlS (W.alloc (.cells #[.string x] 9)) (some ⟨n, 0, none⟩) [x] := SlS.one W x n hn
end Go.Proofs.Ytimpngmmmoaejaa.StrP
