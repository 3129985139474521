/-
  A map of ints by ints that the call makes, as a function and the list of its keys. Of no program but for names.
-/
import Derived.Test.YtnghilcjecjljaaOwn
import Derived.Maps.OwnOps
import Derived.Maps.OwnSet
import Derived.Maps.Views
namespace Go.Proofs.Ytnghilcjecjljaa.MapP
open Go.RowKit Go.Maps
set_option linter.unusedVariables false
set_option maxRecDepth 100000

theorem lawK : Keyed Try.prog 3 := int_keyed Try.underlying3
theorem zeroI (w : World) : (zeroValue 3).run Try.prog w = .ok (.int .i64 0) w := by kernel_rfl
abbrev kI (x : Int) : Lit := .int .i64 x
abbrev dI (x : Int) : DataW Unit := .lit (.int .i64 x)
/-- Block b is a map of at most n entries, f of each key (0 where there is none); ks are its keys. -/
def MapF (w : World) (b n : Nat) (f : Int → Int) (ks : List Int) : Prop :=
  ∃ D, w.ownsMap Try.prog 3 (plainElem (H := Unit) Try.prog 3) b n D ∧ Tidy D ∧ ks.Nodup ∧ Maps.size D = ks.length ∧ ∀ x, (Lit.int .i64 x).wf = true → D.atKey (kI x) (dI 0) = dI (f x) ∧ Maps.has D (kI x) = ks.contains x
theorem MapF.made (w : World) {b : Nat} (hb : w.heap.size = b) : MapF (w.alloc (.map #[] 0)) b 0 (fun _ => 0) [] := by
  subst hb
  exact ⟨.map [], World.ownsMap_made _ _ _ _, tidy_empty, List.nodup_nil, rfl, fun x _ => ⟨rfl, rfl⟩⟩
theorem MapF.lt {w : World} {b n : Nat} {f : Int → Int} {ks : List Int} (h : MapF w b n f ks) : b < w.heap.size := by
  obtain ⟨D, h1, _⟩ := h
  exact h1.lt
theorem MapF.kept {w w' : World} {b n : Nat} {f : Int → Int} {ks : List Int} {row : Option Nat} (h : MapF w b n f ks) (hg : w.grownBy w' row) (hne : some b ≠ row) : MapF w' b n f ks := by
  obtain ⟨D, h1, h2⟩ := h
  exact ⟨D, h1.kept hg hne, h2⟩
theorem MapF.below {w w' : World} {b n : Nat} {f : Int → Int} {ks : List Int} (h : MapF w b n f ks) (hb : Below w.heap.size w w') : MapF w' b n f ks := h.kept (SliceP.grown_none hb) (by simp)
theorem MapF.mono {w : World} {b n n' : Nat} {f : Int → Int} {ks : List Int} (h : MapF w b n f ks) (hn : n ≤ n') : MapF w b n' f ks := by
  obtain ⟨D, h1, h2⟩ := h
  exact ⟨D, h1.mono hn, h2⟩
theorem MapF.alloc {w : World} {b n : Nat} {f : Int → Int} {ks : List Int} (h : MapF w b n f ks) (o : Obj) : MapF (w.alloc o) b n f ks := h.below ((Below.refl _ _).alloc (Nat.le_refl _) _)
theorem MapF.setCell {w : World} {b n : Nat} {f : Int → Int} {ks : List Int} (h : MapF w b n f ks) {c : Nat} (hc : b ≠ c) (i : Nat) (v : Value) : MapF (w.setCell ⟨c, i, none⟩ v) b n f ks := by
  obtain ⟨D, h1, h2⟩ := h
  exact ⟨D, h1.setCell (a := ⟨c, i, none⟩) hc v, h2⟩
/-- f, but v at x. -/
def upd (f : Int → Int) (x v : Int) : Int → Int := fun y => if y = x then v else f y
def addK (ks : List Int) (x : Int) : List Int := if ks.contains x then ks else ks ++ [x]
theorem addK_nodup {ks : List Int} (h : ks.Nodup) (x : Int) : (addK ks x).Nodup := by
  unfold addK
  split
  · exact h
  · rename_i hc
    rw [List.nodup_append]
    refine ⟨h, by simp, fun a ha b hb e => ?_⟩
    simp only [List.mem_singleton] at hb
    subst hb; subst e
    exact hc (by simpa using ha)
theorem keyNe {x y : Int} (h : x ≠ y) : kI x ≠ kI y := fun e => h (by injection e)
theorem isKeyLit (x : Int) : WideAt.IsKeyLit (kI x) := by trivial
section
variable {ops : Array Oper} {rest : List Oper} {o : Oper} {a : Act} {Q : Exit → Act → World → Prop} {w : World} {b n : Nat} {f : Int → Int} {ks : List Int}
theorem run_look (h : MapF w b n f ks) {key : Int} (hk : (Lit.int .i64 key).wf = true) : (Instr.lookup 49 (.map (some b)) (.int .i64 key) false).run Try.prog w = .ok (.int .i64 (f key)) w := by
  obtain ⟨D, h1, _, _, _, h2⟩ := h
  obtain ⟨c, hrun, hat, _⟩ := h1.lookup_int lawK Try.underlying49 Try.underlying3 (zeroI _) (keyOf_int_mk Try.underlying3 hk)
  rw [(h2 key hk).1] at hat
  have e : f key = c := by
    injection hat with e1
    injection e1
  rw [e]; exact hrun
theorem run_len (h : MapF w b n f ks) (ty : TypeId) : (Builtin.len_ #[49] ty #[.map (some b)]).run Try.prog w = .ok (.int .i64 ks.length) w := by
  obtain ⟨D, h1, _, _, h2, _⟩ := h
  rw [← h2]
  exact h1.len Try.underlying49 ty
theorem wpList_look (hg : o.guard = none) (m x : Operand) (hop : o.op = Op.lookup 49 m x false) (hm : a.eval m = .map (some b)) (h : MapF w b n f ks) {key : Int} (hx : a.eval x = .int .i64 key) (hk : (Lit.int .i64 key).wf = true)
    (hK : wpList Try.prog ops Q rest (a.put o.dst (.int .i64 (f key))) w) : wpList Try.prog ops Q (o :: rest) a w := by
  obtain ⟨D, h1, _, _, _, h2⟩ := h
  refine wpList_lookup_own_int _ hg m x 49 hop 3 3 .i64 lawK Try.underlying49 Try.underlying3 (zeroI _) b n D hm h1 _ _ hx (keyOf_int_mk Try.underlying3 hk) fun c hat _ => ?_
  rw [(h2 key hk).1] at hat
  have e : f key = c := by
    injection hat with e1
    injection e1
  rw [← e]; exact hK
theorem wpList_len (hg : o.guard = none) (m : Operand) (hop : o.op = Op.call { callee := Callee.builtin Builtin.len, args := #[m], argTypes := #[49] }) (hm : a.eval m = .map (some b)) (h : MapF w b n f ks)
    (hK : wpList Try.prog ops Q rest (a.put o.dst (.int .i64 ks.length)) w) : wpList Try.prog ops Q (o :: rest) a w := by
  obtain ⟨D, h1, _, _, h2, _⟩ := h
  refine wpList_len_own _ hg m 49 hop 3 3 Try.underlying49 (plainElem (H := Unit) Try.prog 3) b n D hm h1 ?_
  rw [h2]; exact hK
theorem wpList_store (hg : o.guard = none) (m x v : Operand) (hop : o.op = Op.mapUpdate 49 m x v) (hm : a.eval m = .map (some b)) (h : MapF w b n f ks) (hn : n ≤ 1000000) {key val : Int} (hx : a.eval x = .int .i64 key) (hv : a.eval v = .int .i64 val) (hk : (Lit.int .i64 key).wf = true) (hw : (Lit.int .i64 val).wf = true)
    (hK : ∀ w', MapF w' b (n + 1) (upd f key val) (addK ks key) → w.grownBy w' (some b) → wpList Try.prog ops Q rest (a.put o.dst undef) w') : wpList Try.prog ops Q (o :: rest) a w := by
  obtain ⟨D, h1, h2, h3, h4, h5⟩ := h
  refine wpList_mapUpdate_own _ hg m x v 49 hop 3 3 lawK Try.underlying49 (plainElem (H := Unit) Try.prog 3) b n D hm h1 (by unfold maxLen; omega) _ _ _ hx hv (keyOf_int_mk Try.underlying3 hk) _ [] (plainElem_int Try.underlying3 hw) fun w' h6 h7 => hK w' ⟨_, h6, h2.put (isKeyLit key) _, addK_nodup h3 key, ?_, fun y hy => ?_⟩ h7
  · rw [size_put h2, (h5 key hk).2, h4]
    unfold addK
    split <;> simp
  · by_cases hyk : y = key
    · subst hyk
      refine ⟨by rw [atKey_put_same h2.isMap (isKeyLit y)]; simp [upd], ?_⟩
      rw [has_put_same h2.isMap (isKeyLit y)]
      unfold addK
      split
      · rename_i hc; exact hc.symm
      · simp
    · rw [atKey_put_other (keyNe hyk), has_put_other (keyNe hyk), (h5 y hy).1, (h5 y hy).2]
      refine ⟨by simp [upd, hyk], ?_⟩
      unfold addK
      split
      · rfl
      · simp [hyk]
end
end Go.Proofs.Ytnghilcjecjljaa.MapP
