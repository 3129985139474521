/-
  Contract of footwayref09: Push, of a queue with room.
-/
import Derived.Test.YtimpngmmmoaejaaQueueP
namespace Go.Proofs.Ytimpngmmmoaejaa.StrP
open Go.RowKit Go.Sort Go.Proofs.Ytimpngmmmoaejaa.SliceP Go.Proofs.Ytimpngmmmoaejaa.BoxP
set_option linter.unusedVariables false
set_option maxRecDepth 100000

theorem setCell_grown' (w : World) (b o : Nat) (v : Value) : w.grownBy (w.setCell ⟨b, o, none⟩ v) (some b) :=
  ⟨rfl, rfl, rfl, by simp, fun k _ hk => Below.heap_setCell _ _ _ k (fun e => hk (by rw [e]))⟩
theorem OwnS.set {w : World} {B q : Nat} {v : Value} {l : List ByteArray} (h : OwnS w B v l) (hq : q < B) (i : Nat) (u : Value) : OwnS (w.setCell ⟨q, i, none⟩ u) B v l :=
  Own.kept h (setCell_grown' w q i u) (by
    cases hv : v.ownBlock with
    | none => exact .inl rfl
    | some k => exact .inr (by have := (h.lt k hv).1; simp; omega))
set_option maxHeartbeats 8000000 in
theorem r_push_yes {A : Option Addr} {n c : Nat} {l : List ByteArray} (cap lost : Int) (s : ByteArray) {w : World} (ht : RowS w A n c l) (hs : l.length ≤ 100000) (hf : ((l.length : Int) == cap) = false) :
    Calls Try.prog 15 #[qv cap (.slice A n c) lost, .string s] w fun e w' => ∃ A' c', e = .returned (.tuple #[qv cap (.slice A' (l ++ [s]).length c') lost, .bool true]) ∧ RowS w' A' (l ++ [s]).length c' (l ++ [s]) ∧ Below w.heap.size w w' := by
  obtain rfl := ht.len
  obtain ⟨w2, hw2⟩ : ∃ W, W = (w.alloc (qo cap (.slice A l.length c) lost)).alloc (qo 0 (.slice none 0 0) 0) := ⟨_, rfl⟩
  obtain ⟨q, hq⟩ : ∃ q, q = w.heap.size + 1 := ⟨_, rfl⟩
  have B2 : Below w.heap.size w w2 := by rw [hw2]; exact ((Below.refl _ _).alloc (Nat.le_refl _) _).alloc (by simp) _
  have Y2 : Bx w2 w.heap.size QT #[.int .i64 cap, .slice A l.length c, .int .i64 lost] := by rw [hw2]; exact (Bx.new w _ _ rfl).alloc _
  have X2 : Bx w2 q QT #[.int .i64 0, .slice none 0 0, .int .i64 0] := by rw [hw2, hq]; exact Bx.new _ _ _ (by simp)
  obtain ⟨w3, hw3⟩ : ∃ W, W = w2.alloc (.cells #[] 9) := ⟨_, rfl⟩
  have O3 := Lib.hid (show OwnS w3 w2.heap.size (.slice (some ⟨w2.heap.size, 0, none⟩) 0 0) [] by rw [hw3]; exact own_lit w2 #[] [] w2.heap.size 0 (Nat.le_refl _) rfl rfl (by simp))
  have b3 : Below w2.heap.size w2 w3 := by rw [hw3]; exact (Below.refl _ _).alloc (Nat.le_refl _) _
  have B3 := Lib.hid (bt B2 b3)
  have Y3 := Lib.hid (Y2.below b3)
  have X3 := Lib.hid (X2.below b3)
  have hqw : w.heap.size ≤ q := by omega
  have hne : w.heap.size ≠ q := by omega
  have e1 := Lib.hid hq
  have e2 := Lib.hid (show w.heap.size + 1 + 1 = w2.heap.size by rw [hw2]; simp)
  have hy2 := Lib.hid Y2.lt
  have hx2 := Lib.hid X2.lt
  have hsl := Lib.hid (ht.below B3.out).sl
  have hnil := ht.nil
  have hn1 : Hid (([] : List (List Value)).length + (cS l).length ≤ 1000000) := Lib.hid (by rw [cS_length]; simp; omega)
  have hn2 : Hid ((cS l).length + [[Value.string s]].length ≤ 1000000) := Lib.hid (by rw [cS_length]; simp; omega)
  have hnn : Hid (l.length = (cS l).length) := Lib.hid (cS_length _).symm
  obtain ⟨y0, y1, y2⟩ := Bx.c3 Y3.out
  have hyl := Y3.out.lt
  clear ht hq B2 Y2 X2 b3
  go_enter Try.func15, Try.ntmps15
  have hb2 : w2.heap.size ≤ w3.heap.size := by rw [hw3]; simp
  replace hb2 := Lib.hid hb2
  go_wp2_with (at_builtin; (first
    | (rw [e2.out, ← e1.out, ← hw2, ← hw3]; refine wpList_append_sl rfl (.tmp 20) (.tmp 22) 22 rfl elS (by rfl) O3.out (by rfl) hnn.out hsl.out (whole l) hnil hn1.out hb2.out ?_; intro v9 w9 own9 grow9 hloc9
       have R9 := (show Below w2.heap.size w3 w3 from Below.refl _ _).grown grow9 hb2.out (fun k hk => (O3.out.lt k hk).1)
       have ownA := Lib.hid (own9.below ((show Below w9.heap.size w9 w9 from Below.refl _ _).alloc (Nat.le_refl _) (.cells #[.string s] 9)))
       have hslA := Lib.hid (sl_one w9 s _ rfl)
       have RA := Lib.hid (R9.alloc (Nat.le_trans hb2.out R9.size) (.cells #[.string s] 9))
       have hBA := Lib.hid (Nat.le_trans hb2.out RA.out.size)
       clear own9 grow9 hloc9 R9 y0 y1 y2 hyl)
    | (refine wpList_append_sl rfl (.tmp 24) (.tmp 26) 22 rfl elS (by rfl) ownA.out (by rfl) (by rfl) hslA.out (whole [s]) (fun h => by cases h) hn2.out hBA.out ?_; intro v10 w10 own10 grow10 hloc10
       have R10 := Lib.hid (RA.out.grown grow10 hBA.out (fun k hk => (ownA.out.lt k hk).1))
       have Y10 : Bx w10 w.heap.size QT #[.int .i64 cap, .slice A l.length c, .int .i64 lost] := (R10.out.block _ hy2.out).trans Y3.out
       have X10 : Bx w10 q QT #[.int .i64 0, .slice none 0 0, .int .i64 0] := (R10.out.block _ hx2.out).trans X3.out
       obtain ⟨y0, y1, y2⟩ := Bx.c3 Y10
       obtain ⟨x0, x1, x2⟩ := Bx.c3 X10
       have f1 := Y10.f 1
       have g0 := X10.f 0
       have g1 := X10.f 1
       have g2 := X10.f 2
       have hyl := Y10.lt
       have hxl := X10.lt
       have own11 : OwnS w10 w2.heap.size v10 (l ++ [s]) := by unfold OwnS; rw [cS_append]; exact own10
       obtain ⟨A9, c9, hv⟩ := OwnS.form' own11
       obtain ⟨n9, hn9⟩ : ∃ n, n = (l ++ [s]).length := ⟨_, rfl⟩
       rw [← hn9] at hv
       subst hv
       replace own11 := Lib.hid own11
       replace hn9 := Lib.hid hn9
       replace Y10 := Lib.hid Y10
       replace X10 := Lib.hid X10
       clear own10 grow10 hloc10)))
  refine bodyPost_ret (v := .tuple #[qv cap (.slice A9 n9 c9) lost, .bool true]) (by simp [results, Try.results15, go_sem, x0, x1, x2]) rfl ?_
  have ownF := fun v1 v2 v3 v4 => (((own11.out.set hy2.out 1 v1).set hx2.out 0 v2).set hx2.out 1 v3).set hx2.out 2 v4
  have BF := fun v1 v2 v3 v4 => below3 ((B3.out.trans (R10.out.mono (Nat.le_of_lt hy2.out))).setCell (p := ⟨w.heap.size, 1, none⟩) (Nat.le_refl _) v1) hqw v2 v3 v4
  exact ⟨A9, c9, by rw [hn9.out], by rw [← hn9.out]; exact own_row (ownF _ _ _ _), BF _ _ _ _⟩
end Go.Proofs.Ytimpngmmmoaejaa.StrP
