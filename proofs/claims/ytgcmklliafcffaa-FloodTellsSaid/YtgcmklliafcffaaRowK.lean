/-
  Blocks of whole elements, of however many cells each: what is read of them, a store of an element, copy, clear, make. Of no program but for names.
-/
import Derived.Test.YtgcmklliafcffaaOwn
import Derived.Laws.CopyRow
import Derived.Laws.CopyOwn
import Derived.Laws.OwnMore
import Derived.Lib.Overlaps
namespace Go.Proofs.Ytgcmklliafcffaa.SliceP
open Go.RowKit
set_option linter.unusedVariables false

def flatA (xs : List (List Value)) : Array Value := xs.flatten.toArray
/-- A block, whole: elements. -/
def Blk (w : World) (g : Nat) (e : TypeId) (xs : List (List Value)) : Prop := w.heap[g]? = some (.cells (flatA xs) e (0, 0))
section
variable {w w' : World} {g : Nat} {e : TypeId} {size : Nat} {xs ys : List (List Value)}
theorem Blk.lt (h : Blk w g e xs) : g < w.heap.size := (Array.getElem?_eq_some_iff.1 h).1
theorem Blk.below (h : Blk w g e xs) (hb : Below w.heap.size w w') : Blk w' g e xs := (hb.block g h.lt).trans h
theorem Blk.alloc (h : Blk w g e xs) (o : Obj) : Blk (w.alloc o) g e xs := h.below ((Below.refl _ _).alloc (Nat.le_refl _) _)
theorem Blk.grown {row : Option Nat} (h : Blk w g e xs) (hg : w.grownBy w' row) (hne : some g ≠ row) : Blk w' g e xs := (hg.block g h.lt hne).trans h
theorem Blk.new (w : World) (xs : List (List Value)) (e : TypeId) : Blk (w.alloc (.cells (flatA xs) e)) w.heap.size e xs := heap_alloc_new w _
theorem Blk.cell (h : Blk w g e xs) (hw : Whole size xs) {k j : Nat} {cs : List Value} {v : Value} (hk : xs[k]? = some cs) (hj : cs[j]? = some v) : w.cell? ⟨g, k * size + j, none⟩ = some v := by
  rw [cell_of_row w g _ _ e (0, 0) h]
  unfold flatA
  rw [List.getElem?_toArray]
  exact getElem?_flatten xs size k j cs v (fun c hc => (hw c hc).1) hk hj
theorem Blk.free (h : Blk w g e xs) (j : Nat) : w.frozen? ⟨g, j, none⟩ = false := frozen_of_row w g j _ e h
theorem Blk.sl (h : Blk w g e xs) (hw : Whole size xs) : Sl w size (some ⟨g, 0, none⟩) xs := fun _ =>
  ⟨g, 0, rfl, h.lt, fun k cs hk j v hj => by rw [Nat.zero_add]; exact h.cell hw hk hj⟩
theorem Blk.own (h : Blk w g e xs) (hw : Whole size xs) {B n : Nat} (hB : B ≤ g) (hn : n ≤ xs.length) (hm : xs.length ≤ maxLen) : Own w B e size (.slice (some ⟨g, 0, none⟩) n xs.length) (xs.take n) := by
  have hl : ∀ ys : List (List Value), (∀ c ∈ ys, c ∈ xs) → ys.flatten.length = ys.length * size := fun ys hy => flatten_length ys size (fun c hc => (hw c (hy c hc)).1)
  have htl : (xs.take n).length = n := by rw [List.length_take]; omega
  refine ⟨⟨?_, .inr ⟨g, xs.length, flatA xs, ?_, hB, h, ?_, hm, ?_, ?_⟩⟩, fun c hc => hw c (List.mem_of_mem_take hc)⟩
  · exact hl _ (fun c hc => List.mem_of_mem_take hc)
  · rw [htl]
  · rw [htl]; exact hn
  · unfold flatA; rw [List.size_toArray]; exact hl xs (fun _ h => h)
  · unfold flatA
    rw [htl]
    have e1 : xs.flatten = (xs.take n).flatten ++ (xs.drop n).flatten := by rw [← List.flatten_append, List.take_append_drop]
    have e2 : (xs.take n).flatten.length = n * size := by rw [hl _ (fun c hc => List.mem_of_mem_take hc), htl]
    show List.take (n * size) xs.flatten = _
    rw [e1, ← e2, List.take_left]
theorem Whole.take (h : Whole size xs) (n : Nat) : Whole size (xs.take n) := fun c hc => h c (List.mem_of_mem_take hc)
theorem Whole.drop (h : Whole size xs) (n : Nat) : Whole size (xs.drop n) := fun c hc => h c (List.mem_of_mem_drop hc)
theorem Whole.replicate {c : List Value} (h1 : c.length = size) (h2 : ∀ u ∈ c, u.oneCell' = true) (n : Nat) : Whole size (List.replicate n c) := fun d hd => by rw [List.eq_of_mem_replicate hd]; exact ⟨h1, h2⟩
theorem Whole.set (h : Whole size xs) {cs : List Value} (h1 : cs.length = size) (h2 : ∀ u ∈ cs, u.oneCell' = true) (i : Nat) : Whole size (xs.set i cs) := fun d hd => by
  rcases List.mem_or_eq_of_mem_set hd with hd | rfl
  · exact h d hd
  · exact ⟨h1, h2⟩
theorem Whole.flat (h : Whole size xs) : ∀ u ∈ xs.flatten, u.oneCell' = true := fun u hu => by
  obtain ⟨cs, hc, hx⟩ := List.mem_flatten.1 hu
  exact (h cs hc).2 u hx
theorem Whole.len (h : Whole size xs) : xs.flatten.length = xs.length * size := flatten_length xs size (fun c hc => (h c hc).1)

/-- The cells of an element written, one by one. -/
def setL (A : Array Value) : Nat → List Value → Array Value
  | _, [] => A
  | i, v :: vs => setL (A.setIfInBounds i v) (i + 1) vs
theorem setL_list : ∀ (vs : List Value) (A : Array Value) (i : Nat), i + vs.length ≤ A.size → (setL A i vs).toList = A.toList.take i ++ vs ++ A.toList.drop (i + vs.length)
  | [], A, i, h => by simp [setL]
  | v :: vs, A, i, h => by
    simp only [List.length_cons] at h
    rw [setL, setL_list vs _ (i + 1) (by simp; omega)]
    have hi : i < A.toList.length := by simp; omega
    rw [Array.toList_setIfInBounds]
    have e1 : (A.toList.set i v).take (i + 1) = A.toList.take i ++ [v] := by
      have hl : (A.toList.take i).length = i := by rw [List.length_take]; omega
      rw [List.take_set, List.take_succ_eq_append_getElem hi, List.set_append_right _ _ (by omega), hl]
      simp
    have e2 : (A.toList.set i v).drop (i + 1 + vs.length) = A.toList.drop (i + (vs.length + 1)) := by
      rw [List.drop_set_of_lt (by omega), show i + 1 + vs.length = i + (vs.length + 1) by omega]
    rw [e1, e2]; simp
theorem flat_set (hw : Whole size xs) {i : Nat} {cs : List Value} (hi : i < xs.length) (hc : cs.length = size) : setL (flatA xs) (i * size) cs = flatA (xs.set i cs) := by
  apply Array.toList_inj.1
  have hlen := hw.len
  have hle : i * size + size ≤ xs.length * size := by
    have := Nat.mul_le_mul_right size (show i + 1 ≤ xs.length by omega)
    rw [Nat.add_mul, Nat.one_mul] at this; exact this
  rw [setL_list cs _ _ (by unfold flatA; rw [List.size_toArray, hlen, hc]; exact hle)]
  unfold flatA
  simp only
  have hd : xs = xs.take i ++ (xs[i] :: xs.drop (i + 1)) := by rw [← List.drop_eq_getElem_cons hi, List.take_append_drop]
  have h1 : (xs.take i).flatten.length = i * size := by rw [(hw.take i).len, List.length_take, Nat.min_eq_left (Nat.le_of_lt hi)]
  have h2 : xs[i].length = size := (hw _ (List.getElem_mem hi)).1
  have hf : xs.flatten = (xs.take i).flatten ++ (xs[i] ++ (xs.drop (i + 1)).flatten) :=
    (congrArg List.flatten hd).trans (by rw [List.flatten_append, List.flatten_cons])
  rw [hf, ← h1, List.take_left, hc, List.drop_append, ← h2, List.drop_append]
  rw [List.set_eq_take_append_cons_drop, if_pos hi]
  simp
theorem Blk.set4 (h : Blk w g e xs) (hw : Whole 4 xs) {i : Nat} (hi : i < xs.length) (a b c d : Value) :
    Blk ((((w.setCell ⟨g, i * 4, none⟩ a).setCell ⟨g, i * 4 + 1, none⟩ b).setCell ⟨g, i * 4 + 2, none⟩ c).setCell ⟨g, i * 4 + 3, none⟩ d) g e (xs.set i [a, b, c, d]) := by
  have := heap_setCell_same _ g (i * 4 + 3) _ e d (heap_setCell_same _ g (i * 4 + 2) _ e c (heap_setCell_same _ g (i * 4 + 1) _ e b (heap_setCell_same w g (i * 4) _ e a h)))
  unfold Blk
  rw [this, ← flat_set hw hi rfl]; rfl
theorem setCell_grown (w : World) (b o : Nat) (v : Value) : w.grownBy (w.setCell ⟨b, o, none⟩ v) (some b) :=
  ⟨rfl, rfl, rfl, by simp, fun k _ hk => Below.heap_setCell _ _ _ k (fun e => hk (by rw [e]))⟩
theorem set4_grown (w : World) (g i : Nat) (a b c d : Value) : w.grownBy ((((w.setCell ⟨g, i, none⟩ a).setCell ⟨g, i + 1, none⟩ b).setCell ⟨g, i + 2, none⟩ c).setCell ⟨g, i + 3, none⟩ d) (some g) :=
  (((setCell_grown _ _ _ _).trans (setCell_grown _ _ _ _)).trans (setCell_grown _ _ _ _)).trans (setCell_grown _ _ _ _)
theorem grown_below {n : Nat} {row : Option Nat} (h : w.grownBy w' row) (hn : ∀ k, row = some k → n ≤ k) (hs : n ≤ w.heap.size) : Below n w w' :=
  ⟨h.os, h.tape, h.output, h.size, fun k hk => h.block k (by omega) (fun e => by have := hn k e.symm; omega)⟩
theorem below_grown {row : Option Nat} (h : Below w.heap.size w w') : w.grownBy w' row := ⟨h.os, h.tape, h.output, h.size, fun k hk _ => h.block k hk⟩
/-- A slice's elements copied over. -/
theorem run_copy_blk {P : Program} (w : World) (dT sT ty : TypeId) (E : ElemT P dT e size) (o dLen dCap : Nat) (a : Addr) (sLen sCap : Nat) (h : Blk w g e xs) (hw : Whole size xs) (hy : Whole size ys) (hn : ys.length = Nat.min sLen dLen)
    (hsrc : ∀ j v, ys.flatten[j]? = some v → w.cell? (a.add j) = some v) (hfit : o + ys.length ≤ xs.length) :
    ∃ w', (Builtin.copy_ #[dT, sT] ty #[.slice (some ⟨g, o * size, none⟩) dLen dCap, .slice (some a) sLen sCap]).run P w = .ok (goInt ys.length) w' ∧ Blk w' g e (xs.take o ++ ys ++ xs.drop (o + ys.length)) ∧ w.grownBy w' (some g) ∧ w'.heap.size = w.heap.size := by
  obtain ⟨i, z, hi, hz, hsz, hby, hzs⟩ := E.inf
  have hl := run_loadCells_list (P := P) w a ys.flatten hsrc
  have hle : o * size + ys.length * size ≤ xs.length * size := by rw [← Nat.add_mul]; exact Nat.mul_le_mul_right size hfit
  have hst := run_storeCells_at P g (o * size) e ys.flatten 0 (flatA xs) w h (by unfold flatA; rw [List.size_toArray, hw.len, hy.len]; omega) hy.flat
  refine ⟨w.setRow g ((flatA xs).toList.take (o * size + 0) ++ ys.flatten ++ (flatA xs).toList.drop (o * size + 0 + ys.flatten.length)).toArray, ?_, ?_, ?_, by simp⟩
  · rw [hy.len] at hl
    simp [Builtin.copy_, run_underlying E.und, Builtin.lenOf, Builtin.firstCells, sizeOf, typeInfo, hi, hsz, ← hn, hl, hst]
  · unfold Blk
    rw [setRow_heap w g (flatA xs) _ e (0, 0) h]
    congr 2
    unfold flatA
    congr 1
    have h1 : (xs.take o).flatten.length = o * size := by rw [(hw.take o).len, List.length_take, Nat.min_eq_left (by omega)]
    have hf : xs.flatten = (xs.take o).flatten ++ ((xs.drop o).take ys.length).flatten ++ (xs.drop (o + ys.length)).flatten := by
      rw [← List.flatten_append, ← List.flatten_append, ← List.drop_drop, List.append_assoc, List.take_append_drop, List.take_append_drop]
    have h2 : ((xs.drop o).take ys.length).flatten.length = ys.flatten.length := by rw [((hw.drop o).take _).len, hy.len, List.length_take, List.length_drop, Nat.min_eq_left (by omega)]
    show List.take (o * size + 0) xs.flatten ++ ys.flatten ++ List.drop (o * size + 0 + ys.flatten.length) xs.flatten = _
    rw [Nat.add_zero, hf, ← h1, List.append_assoc ((xs.take o).flatten), List.take_left, ← List.append_assoc, ← h2, ← List.length_append, List.drop_left]
    simp
  · exact ⟨rfl, rfl, rfl, by simp, fun k _ hk => setRow_other w g k _ (fun hh => hk (by rw [hh]))⟩
theorem run_copy_blk_nil {P : Program} (w : World) (dT sT ty : TypeId) (E : ElemT P dT e size) (a : Addr) (dLen dCap : Nat) :
    (Builtin.copy_ #[dT, sT] ty #[.slice (some a) dLen dCap, .slice none 0 0]).run P w = .ok (goInt 0) w := by
  obtain ⟨i, z, hi, hz, hsz, hby, hzs⟩ := E.inf
  exact run_copy_nil P w dT sT ty e a dLen dCap E.und (by rw [hi]; rfl)
theorem zero_flat (z : Array Value) (n : Nat) (hz : 0 < z.size) : (Builtin.zeroCells z n).toList = (List.replicate n z.toList).flatten := by
  apply List.ext_getElem
  · simp [Builtin.zeroCells, List.length_flatten, List.sum_replicate_nat]
  · intro j h1 h2
    have hm : j % z.size < z.size := Nat.mod_lt _ hz
    have hj : j < n * z.size := by simpa [Builtin.zeroCells] using h1
    have hk : j / z.size < n := (Nat.div_lt_iff_lt_mul hz).2 hj
    have := getElem?_flatten (List.replicate n z.toList) z.size (j / z.size) (j % z.size) z.toList z[j % z.size] (fun c hc => by rw [List.eq_of_mem_replicate hc]; simp) (by rw [List.getElem?_replicate, if_pos hk]) (by simp [hm])
    have e : j / z.size * z.size + j % z.size = j := by rw [Nat.mul_comm]; exact Nat.div_add_mod j z.size
    rw [e, List.getElem?_eq_getElem h2] at this
    rw [Option.some.inj this]
    simp [Builtin.zeroCells, Array.getElem!_eq_getD, Array.getD_eq_getD_getElem?, hm]
/-- clear(s[o:]). -/
theorem run_clear_blk {P : Program} (w : World) (dT ty : TypeId) (E : ElemT P dT e size) {z : Value} (hzv : ∀ w, (zeroValue e).run P w = .ok z w) (o n c : Nat) (h : Blk w g e xs) (hw : Whole size xs) (hz1 : ∀ u ∈ z.cells.toList, u.oneCell' = true) (hzl : z.cells.size = size) (hn : o + n = xs.length) :
    ∃ w', (Builtin.clear_ #[dT] ty #[.slice (some ⟨g, o * size, none⟩) n c]).run P w = .ok (.tuple #[]) w' ∧ Blk w' g e (xs.take o ++ List.replicate n z.cells.toList) ∧ w.grownBy w' (some g) ∧ w'.heap.size = w.heap.size := by
  cases n with
  | zero =>
    refine ⟨w, by simp [Builtin.clear_, run_underlying E.und], ?_, World.grownBy.refl _ _, rfl⟩
    rw [List.take_of_length_le (by omega)]; simpa using h
  | succ m =>
    have hwz : Whole size (List.replicate (m + 1) z.cells.toList) := Whole.replicate (by simpa using hzl) hz1 _
    have hle : o * size + (m + 1) * size ≤ xs.length * size := by rw [← Nat.add_mul]; exact Nat.mul_le_mul_right size (by omega)
    have hf := zero_flat z.cells (m + 1) (by rw [hzl]; exact E.pos)
    have hst := run_storeCells_at P g (o * size) e (Builtin.zeroCells z.cells (m + 1)).toList 0 (flatA xs) w h (by rw [hf, hwz.len, List.length_replicate]; unfold flatA; rw [List.size_toArray, hw.len]; omega) (by rw [hf]; exact hwz.flat)
    refine ⟨w.setRow g ((flatA xs).toList.take (o * size + 0) ++ (Builtin.zeroCells z.cells (m + 1)).toList ++ (flatA xs).toList.drop (o * size + 0 + (Builtin.zeroCells z.cells (m + 1)).toList.length)).toArray, ?_, ?_, ?_, ?_⟩
    · simp only [Builtin.clear_, List.getElem?_toArray, List.getElem?_cons_zero, Sem.run_bind, run_underlying E.und, Result.andThen_ok, hzv, hst, Sem.run_pure]
    · unfold Blk
      rw [setRow_heap w g (flatA xs) _ e (0, 0) h, hf]
      congr 2
      unfold flatA
      congr 1
      have h1 : (xs.take o).flatten.length = o * size := by rw [(hw.take o).len, List.length_take, Nat.min_eq_left (by omega)]
      show List.take (o * size + 0) xs.flatten ++ _ ++ List.drop (o * size + 0 + _) xs.flatten = _
      rw [hwz.len, List.length_replicate, Nat.add_zero, ← Nat.add_mul, hn]
      rw [show xs.flatten.drop (xs.length * size) = [] by rw [← hw.len]; exact List.drop_length]
      have hfl : xs.flatten = (xs.take o).flatten ++ (xs.drop o).flatten := by rw [← List.flatten_append, List.take_append_drop]
      conv => lhs; rw [hfl, ← h1]
      rw [List.take_left]; simp
    · exact ⟨rfl, rfl, rfl, by simp, fun k _ hk => setRow_other w g k _ (fun hh => hk (by rw [hh]))⟩
    · simp
/-- make([]T, n), of whole elements. -/
theorem run_make_blk {P : Program} (w : World) (t : TypeId) (E : ElemT P t e size) {z : Value} (hzv : ∀ w, (zeroValue e).run P w = .ok z w) (hzl : z.cells.size = size) (n : Nat) (hn : n ≤ 1000000) :
    ∃ w', (Instr.makeSlice t (.int .i64 n) (.int .i64 n)).run P w = .ok (.slice (some ⟨w.heap.size, 0, none⟩) n n) w' ∧ Blk w' w.heap.size e (List.replicate n z.cells.toList) ∧ Below w.heap.size w w' ∧ w'.heap.size = w.heap.size + 1 := by
  obtain ⟨i, z', hi, hz, hsz, hby, hzs⟩ := E.inf
  have hzz : z' = z := by
    have := hzv w
    simp [zeroValue, typeInfo, hi, hz] at this
    exact this
  subst hzz
  have w1 : IntKind.i64.wrap (n : Int) = n := IntWalk.i64_in _ (by omega)
  have hb : n * i.bytes ≤ 1000000 * 64 := Nat.mul_le_mul hn hby
  have hb2 : (i.bytes : Int) * (n : Int) ≤ 64000000 := by
    have : ((n * i.bytes : Nat) : Int) ≤ 64000000 := by omega
    rw [Int.natCast_mul, Int.mul_comm] at this; exact this
  have w2 : ¬ (281474976710656 < (i.bytes : Int) * (n : Int)) := by omega
  have w4 : ¬ ((n : Int) < 0) := by omega
  have hrow : (Array.range (n * size)).map (z'.cells[· % z'.cells.size]!) = flatA (List.replicate n z'.cells.toList) := by
    apply Array.toList_inj.1
    unfold flatA
    rw [← zero_flat z'.cells n (by rw [hzl]; exact E.pos)]
    rw [← hzl]; rfl
  refine ⟨w.alloc (.cells (flatA (List.replicate n z'.cells.toList)) e), ?_, Blk.new _ _ _, (Below.refl _ _).alloc (Nat.le_refl _) _, by simp⟩
  rw [← hrow]
  have h5 : (n : Int).toNat * size = n * size := by simp
  by_cases h0 : n * size = 0
  · have hr : ∀ f : Nat → Value, (Array.range 0).map f = #[] := fun f => by apply Array.toList_inj.1; simp
    simp [Instr.makeSlice, run_underlying E.und, sizeOf, typeInfo, zeroValue, hi, hz, hsz, w1, w2, w4, asInt, asIntOf, newRow, h0]
    rw [hr, hr]
  · simp [Instr.makeSlice, run_underlying E.und, sizeOf, typeInfo, zeroValue, hi, hz, hsz, w1, w2, w4, asInt, asIntOf, newRow, h0]
end
end Go.Proofs.Ytgcmklliafcffaa.SliceP
