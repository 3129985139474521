/-
  A slice that a call owns, of which the first elements may have been cut off ('OwnF'): what append makes of it.
-/
import Derived.Test.YtimpngmmmoaejaaOwn
namespace Go.Proofs.Ytimpngmmmoaejaa.SliceP
open Go.RowKit
set_option linter.unusedVariables false
set_option maxRecDepth 100000

section
variable {w w' : World} {B B' N : Nat} {e : TypeId} {size : Nat} {v : Value} {xs ys : List (List Value)}
/-- v is the end of a slice that the call owns: ds were cut off. -/
def OwnF (w : World) (B N : Nat) (e : TypeId) (size : Nat) (v : Value) (xs : List (List Value)) : Prop :=
  (∃ A, v = .slice A 0 0 ∧ xs = []) ∨ ∃ (g c : Nat) (ds : List (List Value)), v = .slice (some ⟨g, ds.length * size, none⟩) xs.length c ∧ Own w B e size (.slice (some ⟨g, 0, none⟩) (ds ++ xs).length (ds.length + c)) (ds ++ xs) ∧ g < N
theorem OwnF.nil (w : World) (B N : Nat) (e : TypeId) (size : Nat) : OwnF w B N e size (.slice none 0 0) [] := .inl ⟨none, rfl, rfl⟩
theorem OwnF.of_own (h : Own w B e size v xs) : OwnF w B w.heap.size e size v xs := by
  obtain ⟨A, c, rfl, _, _, ⟨rfl, rfl, rfl⟩ | ⟨g, rfl, _, hg⟩⟩ := h.form
  · exact .nil _ _ _ _ _
  · exact .inr ⟨g, c, [], by simp, by simpa using h, hg⟩
theorem OwnF.top (h : OwnF w B N e size v xs) : OwnF w B w.heap.size e size v xs := by
  rcases h with h | ⟨g, c, ds, h1, h2, _⟩
  · exact .inl h
  · exact .inr ⟨g, c, ds, h1, h2, (h2.lt g rfl).2⟩
theorem OwnF.kept {row : Option Nat} (h : OwnF w B N e size v xs) (hg : w.grownBy w' row) (hne : ∀ k, row = some k → k < B) : OwnF w' B N e size v xs := by
  rcases h with h | ⟨g, c, ds, h1, h2, hN⟩
  · exact .inl h
  · refine .inr ⟨g, c, ds, h1, h2.kept hg (.inr fun e => ?_), hN⟩
    have := (h2.lt g rfl).1
    have := hne g e.symm
    omega
theorem OwnF.below (h : OwnF w B N e size v xs) (hb : Below w.heap.size w w') : OwnF w' B N e size v xs := h.kept (grown_none hb) (fun k e => by cases e)
theorem OwnF.form (h : OwnF w B N e size v xs) : ∃ A c, v = .slice A xs.length c ∧ xs.length ≤ c ∧ c ≤ maxLen ∧ (A = none → c = 0) := by
  rcases h with ⟨A, rfl, rfl⟩ | ⟨g, c, ds, rfl, h2, _⟩
  · exact ⟨A, 0, rfl, by simp, by simp, fun _ => rfl⟩
  · obtain ⟨A', c', hv, h3, h4, _⟩ := h2.form
    injection hv with _ _ e
    subst e
    simp only [List.length_append] at h3
    exact ⟨_, c, rfl, by omega, by omega, fun h => by cases h⟩
theorem OwnF.sl {A : Option Addr} {n c : Nat} (h : OwnF w B N e size (.slice A n c) xs) (h0 : 0 < size) : Sl w size A xs := by
  rcases h with ⟨A, _, rfl⟩ | ⟨g, c, ds, hv, h2, _⟩
  · exact Sl.nil
  · injection hv with e1 _ _
    subst e1
    have := Sl.drop (h2.sl h0) ds.length
    rwa [List.drop_left, Nat.zero_add] at this
/-- One is cut off. -/
theorem OwnF.rest {A : Option Addr} {n c : Nat} {x : List Value} (h : OwnF w B N e size (.slice A n c) (x :: xs)) : (c = 1 ∧ xs = []) ∨ ∃ g o, A = some ⟨g, o, none⟩ ∧ OwnF w B N e size (.slice (some ⟨g, o + size, none⟩) (n - 1) (c - 1)) xs := by
  rcases h with ⟨A, _, h⟩ | ⟨g, c', ds, hv, h2, hN⟩
  · cases h
  · injection hv with e1 e2 e3
    subst e1; subst e2; subst e3
    obtain ⟨A', c', hv, h3, h4, _⟩ := h2.form
    injection hv with _ _ e
    subst e
    simp only [List.length_append, List.length_cons] at h3
    by_cases hc : c = 1
    · exact .inl ⟨hc, List.length_eq_zero_iff.1 (by omega)⟩
    · refine .inr ⟨g, _, rfl, .inr ⟨g, c - 1, ds ++ [x], by simp [Nat.add_mul], ?_, hN⟩⟩
      have e1 : ds ++ [x] ++ xs = ds ++ x :: xs := by simp
      rw [e1, show (ds ++ [x]).length + (c - 1) = ds.length + c by simp; omega]
      exact h2

theorem run_append_off {P : Program} {t ty : TypeId} (E : ElemT P t e size) (h : OwnF w B N e size v xs) {a : Addr} {c : Nat} (hs : Sl w size (some a) ys) (hy : ys ≠ []) (hw : Whole size ys) (hn : xs.length + ys.length ≤ 1000000) (hB : B ≤ w.heap.size) :
    ∃ v' w', (Builtin.append_ #[t, t] ty #[v, .slice (some a) ys.length c]).run P w = .ok v' w' ∧ OwnF w' B w'.heap.size e size v' (xs ++ ys) ∧ ∃ row, w.grownBy w' row ∧ ∀ k, row = some k → B ≤ k ∧ k < N := by
  obtain ⟨i, z, hi, hz, hsz, hby, hzs⟩ := E.inf
  have hyl : 0 < ys.length := List.length_pos_iff.2 hy
  have hnews : ∀ j u, ys.flatten[j]? = some u → w.cell? (a.add j) = some u := by
    intro j u hu
    obtain ⟨b, o, h1, _⟩ := hs hy
    obtain rfl : a = ⟨b, o, none⟩ := by simpa using h1
    exact Sl.flat_at hs hw E.pos j u hu
  have hyf := flatten_length ys size (fun cs hcs => (hw cs hcs).1)
  have hone : ∀ u ∈ ys.flatten, u.oneCell' = true := fun u hu => by
    obtain ⟨cs, hcs, hu'⟩ := List.mem_flatten.1 hu
    exact (hw cs hcs).2 u hu'
  have hb64 : (xs.length + ys.length) * i.bytes ≤ 1000000 * 64 := Nat.mul_le_mul hn hby
  have grow : ∀ (b : Addr) (c0 : Nat), c0 < xs.length + ys.length → Whole size xs → v = .slice (some b) xs.length c0 → (∀ j u, xs.flatten[j]? = some u → w.cell? (b.add j) = some u) →
      ∃ v' w', (Builtin.append_ #[t, t] ty #[v, .slice (some a) ys.length c]).run P w = .ok v' w' ∧ OwnF w' B w'.heap.size e size v' (xs ++ ys) ∧ ∃ row, w.grownBy w' row ∧ ∀ k, row = some k → B ≤ k ∧ k < N := by
    intro b c0 hc0 hwx hv holds
    subst hv
    have hxf := flatten_length xs size (fun cs hcs => (hwx cs hcs).1)
    have hr := run_append_grow (P := P) w t ty e i z E.und hi hz b xs.length c0 xs.flatten (by rw [hxf, hsz]) holds a ys.length c ys.flatten (by rw [hyf, hsz]) hnews (by omega) (by omega) (growslice_fits (by omega) (by omega))
    refine ⟨_, _, hr, .of_own ⟨?_, hwx.append hw⟩, none, ⟨rfl, rfl, rfl, by simp, fun k hk _ => ((Below.refl w.heap.size w).drew.alloc (Nat.le_refl _) _).block k hk⟩, fun k e => by cases e⟩
    have hge := grownCap_ge w (xs.length + ys.length) c0 e
    have hcm : grownCap w (xs.length + ys.length) c0 e ≤ maxLen := grownCap_le_maxLen w _ _ e (by unfold maxLen; omega)
    have hlen : (xs.flatten ++ ys.flatten).length = (xs.length + ys.length) * size := by rw [List.length_append, hxf, hyf, Nat.add_mul]
    rw [List.length_append, List.flatten_append]
    refine ⟨hlen, .inr ⟨w.heap.size, _, _, rfl, hB, heap_alloc_new w.drew _, hge, hcm, ?_, ?_⟩⟩
    · simp only [Array.size_append, List.size_toArray, size_zeroCells, hzs, hxf, hyf, ← Nat.add_mul]
      congr 1
      omega
    · simp only [Array.toList_append, List.append_assoc]
      rw [← List.append_assoc, ← hlen]
      exact List.take_left
  rcases h with ⟨A, rfl, rfl⟩ | ⟨g, c0, ds, hv, h2, hN⟩
  · cases A with
    | none =>
      obtain ⟨v', w', h1, h2, h3, _⟩ := run_append_sl (P := P) (t := t) (ty := ty) E (Own.nil w B e size) hs (c := c) hw (fun h => by cases h) hn hB
      exact ⟨v', w', h1, .of_own h2, none, h3, fun k e => by cases e⟩
    | some b => exact grow b 0 (by simpa using hyl) Whole.nil rfl (fun j u hu => by simp at hu)
  · have hwx : Whole size xs := fun cs hc => h2.whole cs (List.mem_append.2 (.inr hc))
    have hwd : Whole size ds := fun cs hc => h2.whole cs (List.mem_append.2 (.inl hc))
    have hxf := flatten_length xs size (fun cs hcs => (hwx cs hcs).1)
    have hdf := flatten_length ds size (fun cs hcs => (hwd cs hcs).1)
    by_cases hroom : xs.length + ys.length ≤ c0
    · rcases h2.row.2 with ⟨h1, _⟩ | ⟨g', cap, cur, h1, hbg, hg, hnc, hcm, hcs, htake⟩
      · cases h1
      · injection h1 with e1 e2 e3
        injection e1 with e1
        injection e1 with e1
        subst e1; subst e3; subst hv
        have hfit : ds.length * size + xs.length * size + ys.flatten.length ≤ cur.size := by
          rw [hyf, hcs, ← Nat.add_mul, ← Nat.add_mul]; exact Nat.mul_le_mul_right _ (by omega)
        have hf := run_firstCells_some (P := P) w i.size ys.length a ys.length c ys.flatten (by rw [hyf, hsz]) hnews
        have hst := run_storeCells_at P g (ds.length * size + xs.length * size) e ys.flatten 0 cur w hg (by simpa using hfit) hone
        simp only [Nat.add_zero] at hst
        rw [hsz] at hf
        have hr : (Builtin.append_ #[t, t] ty #[.slice (some ⟨g, ds.length * size, none⟩) xs.length c0, .slice (some a) ys.length c]).run P w = .ok (.slice (some ⟨g, ds.length * size, none⟩) (xs.length + ys.length) c0) (w.setRow g (cur.toList.take (ds.length * size + xs.length * size) ++ ys.flatten ++ cur.toList.drop (ds.length * size + xs.length * size + ys.flatten.length)).toArray) := by
          simp [Builtin.append_, run_underlying E.und, sizeOf, typeInfo, hi, hsz, Builtin.lenOf, hroom, hf, Addr.add_lit, hst]
        refine ⟨_, _, hr, .inr ⟨g, c0, ds, by rw [List.length_append], ⟨?_, ?_⟩, by simpa using (Array.getElem?_eq_some_iff.1 hg).1⟩, some g, ⟨rfl, rfl, rfl, by simp, fun k _ hk => setRow_other w g k _ (fun e => hk (by rw [e]))⟩, fun k e => ?_⟩
        · have hpos : ds.length * size + xs.length * size = (ds ++ xs).flatten.length := by rw [List.flatten_append, List.length_append, hdf, hxf]
          have htk : (ds ++ xs).length * size = (ds ++ xs).flatten.length := by rw [← hpos, List.length_append, Nat.add_mul]
          rw [htk] at htake
          refine ⟨?_, .inr ⟨g, ds.length + c0, _, by simp only [List.length_append], hbg, setRow_heap w g cur _ e _ hg, by simp only [List.length_append]; omega, hcm, ?_, ?_⟩⟩
          · rw [← List.append_assoc, List.flatten_append, List.length_append, ← hpos, hyf]; simp only [List.length_append, Nat.add_mul]
          · simp only [List.size_toArray, List.length_append, List.length_take, List.length_drop, Array.length_toList]
            omega
          · rw [hpos, htake]
            have : (ds ++ (xs ++ ys)).length * size = ((ds ++ xs).flatten ++ ys.flatten).length := by rw [List.length_append (bs := ys.flatten), ← hpos, hyf]; simp only [List.length_append, Nat.add_mul]; omega
            rw [this]
            simp only []
            rw [List.take_left, ← List.append_assoc, List.flatten_append (L₁ := ds ++ xs)]
        · rw [← List.append_assoc]; exact h2.whole.append hw
        · injection e with e
          subst e
          exact ⟨hbg, hN⟩
    · refine grow ⟨g, ds.length * size, none⟩ c0 (by omega) hwx hv (fun j u hu => ?_)
      have hsl := Sl.drop (h2.sl E.pos) ds.length
      rw [List.drop_left, Nat.zero_add] at hsl
      exact Sl.flat_at hsl hwx E.pos j u hu
theorem wpList_append_off {P : Program} {ops : Array Oper} {rest : List Oper} {o : Oper} {a : Act} {Q : Exit → Act → World → Prop} (hgd : o.guard = none) (s x : Operand) (t : TypeId)
    (ho : o.op = .call { callee := .builtin .append, args := #[s, x], argTypes := #[t, t] }) (E : ElemT P t e size) (hs : a.eval s = v) (h : OwnF w B N e size v xs) {ad : Addr} {n c : Nat} (hx : a.eval x = .slice (some ad) n c) (hnn : n = ys.length)
    (hsl : Sl w size (some ad) ys) (hy : ys ≠ []) (hw : Whole size ys) (hn : xs.length + ys.length ≤ 1000000) (hB : B ≤ w.heap.size)
    (hK : ∀ v' w' row, OwnF w' B w'.heap.size e size v' (xs ++ ys) → w.grownBy w' row → (∀ k, row = some k → B ≤ k ∧ k < N) → wpList P ops Q rest (a.put o.dst v') w') : wpList P ops Q (o :: rest) a w := by
  refine wpList_plain hgd fun _ hK' => ?_
  subst hnn
  obtain ⟨v', w', hr, h2, row, h3, h4⟩ := run_append_off (P := P) (t := t) (ty := o.type) E h hsl hy (c := c) hw hn hB
  unfold Oper.wp execOp
  simp only [ho, resolve, invoke, builtin, Sem.run_bind, Sem.run_pure, Result.andThen_ok, List.map_toArray, List.map_cons, List.map_nil, hs, hx, hr]
  exact hK' _ _ (hK v' w' row h2 h3 h4)
end
end Go.Proofs.Ytimpngmmmoaejaa.SliceP
