/-
  Slices that a call owns, element for element ('Own'), and what append makes of them; a row of slices ('SlL').
-/
import Derived.Test.YtgcmklliafcffaaSlice
import Derived.Maps.AppendAt
import Derived.Lib.SliceRun
import Derived.IntWalk
import Derived.Shelf.SlSortCmp.QuietGrown
namespace Go.Proofs.Ytgcmklliafcffaa.SliceP
open Go.RowKit
set_option linter.unusedVariables false

/-- t is the type of slices of e, of size cells each. -/
structure ElemT (P : Program) (t e : TypeId) (size : Nat) : Prop where
  und : P.underlying t = some (.slice e)
  inf : ∃ i z, P.info? e = some i ∧ i.zero = some z ∧ i.size = size ∧ i.bytes ≤ 64 ∧ z.cells.size = size
  pos : 0 < size
theorem ElemT.mk' {P : Program} {t e : TypeId} {size bytes : Nat} {z : Value} (h1 : P.underlying t = some (.slice e)) (h2 : (P.info? e).map (fun i => (i.zero, i.size, i.bytes)) = some (some z, size, bytes)) (h3 : bytes ≤ 64) (h4 : z.cells.size = size) (h5 : 0 < size) : ElemT P t e size := by
  cases hi : P.info? e with
  | none => rw [hi] at h2; cases h2
  | some i =>
    rw [hi] at h2
    simp only [Option.map_some, Option.some.injEq, Prod.mk.injEq] at h2
    obtain ⟨a, b, c⟩ := h2
    exact ⟨h1, ⟨i, z, hi, a, b, by omega, h4⟩, h5⟩

/-- Whole elements, all of their cells one cell each. -/
def Whole (size : Nat) (xs : List (List Value)) : Prop := ∀ cs ∈ xs, cs.length = size ∧ ∀ u ∈ cs, u.oneCell' = true
theorem Whole.nil {size : Nat} : Whole size [] := fun _ h => by cases h
theorem Whole.append {size : Nat} {xs ys : List (List Value)} (h : Whole size xs) (k : Whole size ys) : Whole size (xs ++ ys) := fun cs hc => (List.mem_append.1 hc).elim (h cs) (k cs)

structure Own (w : World) (B : Nat) (e : TypeId) (size : Nat) (v : Value) (xs : List (List Value)) : Prop where
  row : w.ownsRow B e size v xs.length xs.flatten
  whole : Whole size xs
section
variable {w w' : World} {B B' : Nat} {e : TypeId} {size : Nat} {v : Value} {xs ys : List (List Value)}
theorem Own.nil (w : World) (B : Nat) (e : TypeId) (size : Nat) : Own w B e size (.slice none 0 0) [] := ⟨World.ownsRow_nil w B e size, Whole.nil⟩
theorem Own.form (h : Own w B e size v xs) : ∃ A c, v = .slice A xs.length c ∧ xs.length ≤ c ∧ c ≤ maxLen ∧ ((A = none ∧ xs = [] ∧ c = 0) ∨ ∃ g, A = some ⟨g, 0, none⟩ ∧ B ≤ g ∧ g < w.heap.size) := by
  rcases h.row.2 with ⟨h1, h2⟩ | ⟨g, c, cur, h1, hb, hg, hn, hm, _, _⟩
  · exact ⟨none, 0, by rw [h1, h2], by omega, by omega, .inl ⟨rfl, List.length_eq_zero_iff.1 h2, rfl⟩⟩
  · exact ⟨some ⟨g, 0, none⟩, c, h1, hn, hm, .inr ⟨g, rfl, hb, (Array.getElem?_eq_some_iff.1 hg).1⟩⟩
theorem Own.kept {row : Option Nat} (h : Own w B e size v xs) (hg : w.grownBy w' row) (hne : v.ownBlock = none ∨ v.ownBlock ≠ row) : Own w' B e size v xs := ⟨h.row.kept hg hne, h.whole⟩
theorem grown_none (hb : Below w.heap.size w w') : w.grownBy w' none := ⟨hb.os, hb.tape, hb.output, hb.size, fun k hk _ => hb.block k hk⟩
theorem Own.below (h : Own w B e size v xs) (hb : Below w.heap.size w w') : Own w' B e size v xs := h.kept (grown_none hb) (by cases v.ownBlock <;> simp)
theorem Own.rebase (h : Own w B e size v xs) (hB : ∀ k, v.ownBlock = some k → B' ≤ k) : Own w B' e size v xs := by
  refine ⟨⟨h.row.1, ?_⟩, h.whole⟩
  rcases h.row.2 with h1 | ⟨g, c, cur, h1, h2, rest⟩
  · exact .inl h1
  · exact .inr ⟨g, c, cur, h1, hB g (by rw [h1]; rfl), rest⟩
theorem Own.lt (h : Own w B e size v xs) : ∀ k, v.ownBlock = some k → B ≤ k ∧ k < w.heap.size := h.row.lt
theorem Own.base (h : Own w B e size v xs) (hB : B' ≤ B) : Own w B' e size v xs := h.rebase fun k hk => Nat.le_trans hB (h.lt k hk).1
theorem Own.sl {A : Option Addr} {n c : Nat} (h : Own w B e size (.slice A n c) xs) (h0 : 0 < size) : Sl w size A xs := by
  have hn : n = xs.length := by
    obtain ⟨A', c', hv, _⟩ := h.form
    injection hv
  subst hn
  exact Sl.of_own h.row rfl (fun cs hc => (h.whole cs hc).1) h0

theorem Sl.flat_at {b o : Nat} (h : Sl w size (some ⟨b, o, none⟩) xs) (hw : Whole size xs) (h0 : 0 < size) (j : Nat) (u : Value) (hu : xs.flatten[j]? = some u) : w.cell? ((⟨b, o, none⟩ : Addr).add j) = some u := by
  have hl : j < xs.length * size := by rw [← flatten_length xs size (fun c hc => (hw c hc).1)]; exact (List.getElem?_eq_some_iff.1 hu).1
  have hk : j / size < xs.length := (Nat.div_lt_iff_lt_mul h0).2 hl
  have hc : xs[j / size]? = some xs[j / size] := List.getElem?_eq_getElem hk
  have hlen : (xs[j / size]).length = size := (hw _ (List.getElem_mem hk)).1
  have hm : j % size < (xs[j / size]).length := by rw [hlen]; exact Nat.mod_lt _ h0
  have hv : (xs[j / size])[j % size]? = some (xs[j / size])[j % size] := List.getElem?_eq_getElem hm
  have hf := getElem?_flatten xs size (j / size) (j % size) _ _ (fun c hc => (hw c hc).1) hc hv
  have e : j / size * size + j % size = j := by rw [Nat.mul_comm]; exact Nat.div_add_mod j size
  rw [e] at hf
  obtain rfl : (xs[j / size])[j % size] = u := by
    have : some _ = some u := hf.symm.trans hu
    injection this
  obtain ⟨b', o', e', _, hcell⟩ := Sl.at_ h hc
  obtain ⟨rfl, rfl⟩ : b = b' ∧ o = o' := by simpa using e'
  have := hcell _ _ hv
  rw [Nat.add_assoc, e] at this
  have ea : (⟨b, o, none⟩ : Addr).add j = ⟨b, o + j, none⟩ := by
    unfold Addr.add
    by_cases hz : j = 0
    · rw [if_pos hz, hz]; rfl
    · rw [if_neg hz]
  rw [ea]; exact this

/-- append to what is owned, of whatever slice. -/
theorem run_append_sl {P : Program} {t ty : TypeId} (E : ElemT P t e size) (h : Own w B e size v xs) {A : Option Addr} {c : Nat} (hs : Sl w size A ys) (hw : Whole size ys) (hc : A = none → c = 0) (hn : xs.length + ys.length ≤ 1000000) (hB : B ≤ w.heap.size) :
    ∃ v' w', (Builtin.append_ #[t, t] ty #[v, .slice A ys.length c]).run P w = .ok v' w' ∧ Own w' B e size v' (xs ++ ys) ∧ w.grownBy w' v.ownBlock ∧ (v'.ownBlock = v.ownBlock ∨ v'.ownBlock = some w.heap.size) := by
  obtain ⟨i, z, hi, hz, hsz, hby, hzs⟩ := E.inf
  cases A with
  | none =>
    obtain rfl : c = 0 := hc rfl
    have hy : ys = [] := by
      rcases ys with _ | ⟨y, ys⟩
      · rfl
      · obtain ⟨b, o, h1, _⟩ := hs (by simp)
        cases h1
    subst hy
    exact ⟨v, w, run_append_owned_none (P := P) w B t ty e i size E.und hi v xs.length xs.flatten h.row, by rw [List.append_nil]; exact h, World.grownBy.refl _ _, .inl rfl⟩
  | some a =>
    have hnews : ∀ j u, ys.flatten[j]? = some u → w.cell? (a.add j) = some u := by
      intro j u hu
      have hne : ys ≠ [] := by rintro rfl; simp at hu
      obtain ⟨b, o, h1, _⟩ := hs hne
      obtain rfl : a = ⟨b, o, none⟩ := by simpa using h1
      exact Sl.flat_at hs hw E.pos j u hu
    have hb64 : (xs.length + ys.length) * i.bytes ≤ 1000000 * 64 := Nat.mul_le_mul hn hby
    obtain ⟨v', w', h1, h2, h3, _, h5⟩ := run_append_own_at (P := P) w B t ty e i z size i.bytes E.und hi hz hsz rfl hzs E.pos v xs.length xs.flatten h.row a ys.length c ys.flatten
      (flatten_length ys size (fun cs hcs => (hw cs hcs).1)) hnews (fun u hu => by
        obtain ⟨cs, hcs, hu'⟩ := List.mem_flatten.1 hu
        exact (hw cs hcs).2 u hu') (by unfold maxLen; omega) (by omega) hB
    refine ⟨v', w', h1, ⟨?_, h.whole.append hw⟩, h3, h5⟩
    rw [List.length_append, List.flatten_append]
    exact h2
theorem wp_append_sl {P : Program} {o : Oper} {a : Act} {K : Act → World → Prop} {Q : Exit → Act → World → Prop} (s x : Operand) (t : TypeId)
    (ho : o.op = .call { callee := .builtin .append, args := #[s, x], argTypes := #[t, t] }) (E : ElemT P t e size) (hs : a.eval s = v) (h : Own w B e size v xs) {A : Option Addr} {n c : Nat} (hx : a.eval x = .slice A n c) (hnn : n = ys.length)
    (hsl : Sl w size A ys) (hw : Whole size ys) (hc : A = none → c = 0) (hn : xs.length + ys.length ≤ 1000000) (hB : B ≤ w.heap.size)
    (hK : ∀ v' w', Own w' B e size v' (xs ++ ys) → w.grownBy w' v.ownBlock → (v'.ownBlock = v.ownBlock ∨ v'.ownBlock = some w.heap.size) → K (a.put o.dst v') w') : o.wp P a w K Q := by
  subst hnn
  obtain ⟨v', w', hr, h2, h3, h4⟩ := run_append_sl (P := P) (t := t) (ty := o.type) E h hsl hw hc hn hB
  unfold Oper.wp execOp
  simp only [ho, resolve, invoke, builtin, Sem.run_bind, Sem.run_pure, Result.andThen_ok, List.map_toArray, List.map_cons, List.map_nil, hs, hx, hr]
  exact hK v' w' h2 h3 h4
theorem wpList_append_sl {P : Program} {ops : Array Oper} {rest : List Oper} {o : Oper} {a : Act} {Q : Exit → Act → World → Prop} (hgd : o.guard = none) (s x : Operand) (t : TypeId)
    (ho : o.op = .call { callee := .builtin .append, args := #[s, x], argTypes := #[t, t] }) (E : ElemT P t e size) (hs : a.eval s = v) (h : Own w B e size v xs) {A : Option Addr} {n c : Nat} (hx : a.eval x = .slice A n c) (hnn : n = ys.length)
    (hsl : Sl w size A ys) (hw : Whole size ys) (hc : A = none → c = 0) (hn : xs.length + ys.length ≤ 1000000) (hB : B ≤ w.heap.size)
    (hK : ∀ v' w', Own w' B e size v' (xs ++ ys) → w.grownBy w' v.ownBlock → (v'.ownBlock = v.ownBlock ∨ v'.ownBlock = some w.heap.size) → wpList P ops Q rest (a.put o.dst v') w') : wpList P ops Q (o :: rest) a w :=
  wpList_plain hgd fun _ hK' => wp_append_sl s x t ho E hs h hx hnn hsl hw hc hn hB fun v' w' h2 h3 h4 => hK' _ _ (hK v' w' h2 h3 h4)

/-- The same behind a guard that holds. -/
theorem wpList_append_sl_g {P : Program} {ops : Array Oper} {rest : List Oper} {o : Oper} {a : Act} {Q : Exit → Act → World → Prop} (hwant : Region.wanted o (yielded ops a.tmps) = true) (s x : Operand) (t : TypeId)
    (ho : o.op = .call { callee := .builtin .append, args := #[s, x], argTypes := #[t, t] }) (E : ElemT P t e size) (hs : a.eval s = v) (h : Own w B e size v xs) {A : Option Addr} {n c : Nat} (hx : a.eval x = .slice A n c) (hnn : n = ys.length)
    (hsl : Sl w size A ys) (hw : Whole size ys) (hc : A = none → c = 0) (hn : xs.length + ys.length ≤ 1000000) (hB : B ≤ w.heap.size)
    (hK : ∀ v' w', Own w' B e size v' (xs ++ ys) → w.grownBy w' v.ownBlock → (v'.ownBlock = v.ownBlock ∨ v'.ownBlock = some w.heap.size) → wpList P ops Q rest (a.put o.dst v') w') : wpList P ops Q (o :: rest) a w :=
  wpList_step fun K hK' => by
    rw [if_pos hwant]
    exact wp_append_sl s x t ho E hs h hx hnn hsl hw hc hn hB fun v' w' h2 h3 h4 => hK' _ _ (hK v' w' h2 h3 h4)

/-- append to nil of n zero values. -/
theorem run_append_make {P : Program} {t ti ty : TypeId} (E : ElemT P t e size) (hti : P.underlying ti = some (.int .i64)) (n : Nat) (hn0 : 0 < n) (hn : n ≤ 1000000) (w : World) :
    ∃ g c w', (Builtin.append_ #[t, ti] ty #[.slice none 0 0, .int .i64 n]).run P w = .ok (.slice (some ⟨g, 0, none⟩) n c) w' ∧ Own w' w.heap.size e size (.slice (some ⟨g, 0, none⟩) 0 c) [] ∧ Below w.heap.size w w' ∧ n ≤ c ∧ c ≤ maxLen := by
  obtain ⟨i, z, hi, hz, hsz, hby, hzs⟩ := E.inf
  have hb : n * i.bytes ≤ 1000000 * 64 := Nat.mul_le_mul hn hby
  have hb2 : (n : Int) * (i.bytes : Int) ≤ 64000000 := by
    have : ((n * i.bytes : Nat) : Int) ≤ 64000000 := by omega
    rwa [Int.natCast_mul] at this
  have hge := grownCap_ge w n 0 e
  have hcm : grownCap w n 0 e ≤ maxLen := grownCap_le_maxLen w n 0 e (by unfold maxLen; omega)
  have hn' : n ≠ 0 := by omega
  have w1 : IntKind.i64.wrap (n : Int) = n := IntWalk.i64_in _ (by omega)
  have w2 : ¬ ((n : Int) < 0) := by omega
  have w3 : ¬ (281474976710656 < (n : Int) * (i.bytes : Int)) := by omega
  have w4 : ¬ (9223372036854775807 < (n : Int)) := by omega
  have w5 : ¬ (281474976710656 < Builtin.nextslicecap n 0 * i.bytes) := by rw [nextslicecap_zero hn0]; omega
  refine ⟨w.heap.size, grownCap w n 0 e, w.drew.alloc (.cells (Builtin.zeroCells z.cells n ++ Builtin.zeroCells z.cells (grownCap w n 0 e - n)) e), ?_, ⟨⟨by simp, .inr ⟨w.heap.size, _, _, rfl, Nat.le_refl _, heap_alloc_new w.drew _, Nat.zero_le _, hcm, ?_, by simp⟩⟩, Whole.nil⟩, (Below.refl _ _).drew.alloc (Nat.le_refl _) _, hge, hcm⟩
  · simp [Builtin.append_, run_underlying E.und, run_underlying hti, sizeOf, typeInfo, zeroValue, hi, hz, hsz, hn', w1, w2, w3, w4, w5, asInt, asIntOf, Builtin.firstCells, Question.forced, newRow, grownCap]
    intro hh
    exact absurd hh (Nat.ne_of_gt (Nat.mul_pos hn0 E.pos))
  · simp only [Array.size_append, size_zeroCells, hzs, ← Nat.add_mul]
    congr 1
    omega
theorem wpList_append_make {P : Program} {t ti : TypeId} {ops : Array Oper} {rest : List Oper} {o : Oper} {a : Act} {Q : Exit → Act → World → Prop} (hgd : o.guard = none) (s x : Operand)
    (ho : o.op = .call { callee := .builtin .append, args := #[s, x], argTypes := #[t, ti] }) (E : ElemT P t e size) (hti : P.underlying ti = some (.int .i64)) (hs : a.eval s = .slice none 0 0) (n : Nat) (hx : a.eval x = .int .i64 n) (hn0 : 0 < n) (hn : n ≤ 1000000)
    (hK : ∀ g c w', Own w' w.heap.size e size (.slice (some ⟨g, 0, none⟩) 0 c) [] → Below w.heap.size w w' → n ≤ c → c ≤ maxLen → wpList P ops Q rest (a.put o.dst (.slice (some ⟨g, 0, none⟩) n c)) w') : wpList P ops Q (o :: rest) a w := by
  refine wpList_plain hgd fun K hK' => ?_
  obtain ⟨g, c, w', hr, h2, h3, h4, h5⟩ := run_append_make (P := P) (ty := o.type) E hti n hn0 hn w
  unfold Oper.wp execOp
  simp only [ho, resolve, invoke, builtin, Sem.run_bind, Sem.run_pure, Result.andThen_ok, List.map_toArray, List.map_cons, List.map_nil, hs, hx, hr]
  exact hK' _ _ (hK g c w' h2 h3 h4 h5)
end

/-- A row of slices. -/
def SlL (w : World) (size : Nat) (A : Option Addr) (L : List (List (List Value))) : Prop :=
  L ≠ [] → ∃ b o, A = some ⟨b, o, none⟩ ∧ b < w.heap.size ∧ ∀ k xs, L[k]? = some xs → ∃ A' c, w.cell? ⟨b, o + k, none⟩ = some (.slice A' xs.length c) ∧ (A' = none → c = 0) ∧ Sl w size A' xs
section
variable {w w' : World} {size : Nat} {A : Option Addr} {L : List (List (List Value))}
theorem SlL.nil : SlL w size A [] := fun h => absurd rfl h
theorem SlL.below (h : SlL w size A L) (hb : Below w.heap.size w w') : SlL w' size A L := fun hn => by
  obtain ⟨b, o, rfl, hlt, hx⟩ := h hn
  refine ⟨b, o, rfl, Nat.lt_of_lt_of_le hlt hb.size, fun k xs hk => ?_⟩
  obtain ⟨A', c, h1, h2, h3⟩ := hx k xs hk
  exact ⟨A', c, (hb.cell (p := ⟨b, o + k, none⟩) hlt).trans h1, h2, h3.below hb⟩
theorem SlL.at_ (h : SlL w size A L) {k : Nat} {xs : List (List Value)} (hk : L[k]? = some xs) : ∃ b o A' c, A = some ⟨b, o, none⟩ ∧ b < w.heap.size ∧ w.cell? ⟨b, o + k, none⟩ = some (.slice A' xs.length c) ∧ (A' = none → c = 0) ∧ Sl w size A' xs := by
  obtain ⟨b, o, rfl, hb, hx⟩ := h (by rintro rfl; simp at hk)
  obtain ⟨A', c, h1, h2, h3⟩ := hx k xs hk
  exact ⟨b, o, A', c, rfl, hb, h1, h2, h3⟩
end
end Go.Proofs.Ytgcmklliafcffaa.SliceP
