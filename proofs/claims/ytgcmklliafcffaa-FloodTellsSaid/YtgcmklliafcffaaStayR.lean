/-
  What a step leaves alone.
-/
import Derived.Test.YtgcmklliafcffaaLanB
import Derived.Test.YtgcmklliafcffaaLanP
namespace Go.Proofs.Ytgcmklliafcffaa.LanP
open Go.RowKit Go.Sort Go.Proofs.Ytgcmklliafcffaa.SliceP Go.Proofs.Ytgcmklliafcffaa.BoxP
open Go.Proofs.Ytgcmklliafcffaa.IntP (RowI SlI OwnI)
open Go.Proofs.Ytgcmklliafcffaa.BoolP (RowB SlB OwnB)
set_option linter.unusedVariables false
set_option maxRecDepth 100000
/-- What is left alone by a step that may write the blocks of S. -/
structure Stay (S : Nat → Prop) (w w' : World) : Prop where
  os : w'.os = w.os
  tape : w'.tape = w.tape
  output : w'.output = w.output
  size : w.heap.size ≤ w'.heap.size
  block : ∀ k, k < w.heap.size → ¬ S k → w'.heap[k]? = w.heap[k]?
section
variable {S : Nat → Prop} {w w' w2 : World} {n : Nat}
theorem Stay.refl (S : Nat → Prop) (w : World) : Stay S w w := ⟨rfl, rfl, rfl, Nat.le_refl _, fun _ _ _ => rfl⟩
theorem Stay.trans (h : Stay S w w') (k : Stay S w' w2) : Stay S w w2 := ⟨k.os.trans h.os, k.tape.trans h.tape, k.output.trans h.output, Nat.le_trans h.size k.size, fun i hi hs => (k.block i (Nat.lt_of_lt_of_le hi h.size) hs).trans (h.block i hi hs)⟩
theorem Stay.of (h : Below w.heap.size w w') : Stay S w w' := ⟨h.os, h.tape, h.output, h.size, fun k hk _ => h.block k hk⟩
theorem Stay.below (h : Stay S w w') (hS : ∀ b, S b → n ≤ b) (hn : n ≤ w.heap.size) : Below n w w' := ⟨h.os, h.tape, h.output, h.size, fun k hk => h.block k (by omega) (fun hs => by have := hS k hs; omega)⟩
theorem Stay.bx (h : Stay S w w') {b : Nat} {ty : TypeId} {vals : Array Value} (hb : Bx w b ty vals) (hs : ¬ S b) : Bx w' b ty vals := (h.block b hb.lt hs).trans hb
theorem Stay.cell (h : Stay S w w') {p : Addr} (hp : p.block < w.heap.size) (hs : ¬ S p.block) : w'.cell? p = w.cell? p := World.cell?_of_block (h.block _ hp hs)
theorem Stay.sl {sz : Nat} {A : Option Addr} {xs : List (List Value)} (h : Stay S w w') (hs : Sl w sz A xs) (ho : ∀ a, A = some a → ¬ S a.block) : Sl w' sz A xs := fun hn => by
  obtain ⟨b, o, e, hb, hx⟩ := hs hn
  have hS := ho _ e
  exact ⟨b, o, e, Nat.lt_of_lt_of_le hb h.size, fun k cs hk j v hj => (h.cell (p := ⟨b, o + k * sz + j, none⟩) hb hS).trans (hx k cs hk j v hj)⟩
theorem own_stay {B : Nat} {e : TypeId} {sz : Nat} {v : Value} {xs : List (List Value)} (h : Own w B e sz v xs) (k : Stay S w w') (hS : ∀ b, v.ownBlock = some b → ¬ S b) : Own w' B e sz v xs := by
  refine ⟨⟨h.row.1, ?_⟩, h.whole⟩
  rcases h.row.2 with h1 | ⟨g, c, cur, h1, h2, h3, rest⟩
  · exact .inl h1
  · exact .inr ⟨g, c, cur, h1, h2, (k.block g (Array.getElem?_eq_some_iff.1 h3).1 (hS g (by rw [h1]; rfl))).trans h3, rest⟩
end
end Go.Proofs.Ytgcmklliafcffaa.LanP
