/-
  Communication that never waits, in the ordinary walk: a region whose operations send or receive.
-/
import Derived.Test.YtimpngmmmoaejaaStrs
import Derived.Conc.LoneCalls
namespace Go.Proofs.Ytimpngmmmoaejaa.ChanP
open Go.RowKit Go.Sort Go.Conc
set_option linter.unusedVariables false
set_option maxRecDepth 100000

section
variable {P : Program} {ops : Array Oper} {Q : Exit → Act → World → Prop} {a : Act} {w : World} {i : Nat} {rest : List Nat} {o : Oper}
/-- From inside a region, at these operations, a way leads out of which Q holds. -/
def AtOps (P : Program) (ops : Array Oper) (Q : Exit → Act → World → Prop) (l : List Nat) (a : Act) (w : World) : Prop :=
  ∀ (b : Frame) (k : List Item) (cs : List Frame), ∃ e a' w', Q e a' w' ∧ Arrives P (lone (b.at a (.inRegion ops l :: k)) cs w) b k cs e a' w'
theorem wp_region_at {id : Nat} (h : AtOps P ops Q (List.range ops.size) a w) : (Code.region id ops false).wp P Q a w :=
  fun b k cs => let ⟨e, a', w', q, r⟩ := h b k cs; ⟨e, a', w', q, .of_steps (.one step_region) r⟩
theorem AtOps.of_wp {l : List Nat} (h : wpOps P ops Q l a w) : AtOps P ops Q l a w := wp_ops l a w h
theorem AtOps.value {v : Value} {w' : World} (ho : ops[i]? = some o) (hw : Region.wanted o (yielded ops a.tmps) = true) (hr : (execOp a.eval o).run P w = .ok (.value v) w') (h : AtOps P ops Q rest (a.put o.dst v) w') : AtOps P ops Q (i :: rest) a w := by
  intro b k cs
  obtain ⟨e, a', w'', hq, harr⟩ := h b k cs
  have hfin : (b.at a (.inRegion ops (i :: rest) :: k)).finish v = b.at (a.put o.dst v) (.inRegion ops rest :: k) := by rw [Frame.finish_at, ho]; rfl
  refine ⟨e, a', w'', hq, .of_steps (.one (step_lone_go ?_)) harr⟩
  rw [stepG_op ho hw, ← hfin]; simp [stepG.apply, hr]
theorem AtOps.move {x : Operand} (ho : ops[i]? = some o) (hop : o.op = .move x) (hw : Region.wanted o (yielded ops a.tmps) = true) (h : AtOps P ops Q rest (a.put o.dst (a.eval x)) w) : AtOps P ops Q (i :: rest) a w :=
  AtOps.value ho hw (by simp [execOp, hop]) h
theorem AtOps.assign {x : Operand} (ho : ops[i]? = some o) (hop : o.op = .assign x) (hw : Region.wanted o (yielded ops a.tmps) = true) (h : AtOps P ops Q rest (a.put o.dst (a.eval x)) w) : AtOps P ops Q (i :: rest) a w :=
  AtOps.value ho hw (by simp [execOp, hop]) h
theorem AtOps.extract {x : Operand} {n : Nat} {vs : Array Value} (ho : ops[i]? = some o) (hop : o.op = .extract x n) (hw : Region.wanted o (yielded ops a.tmps) = true) (ha : a.eval x = .tuple vs) {v : Value} (hv : vs[n]? = some v) (h : AtOps P ops Q rest (a.put o.dst v) w) : AtOps P ops Q (i :: rest) a w :=
  AtOps.value ho hw (by unfold execOp; simp only [hop, ha, Instr.extract]; simp [hv]) h
theorem stepG_comm_any {b : Frame} {k : List Item} {cs : List Frame} {cases : Array CommCase} {blocking : Bool} {shape : CommShape} {w' : World} (ho : ops[i]? = some o) (hw : Region.wanted o (yielded ops a.tmps) = true)
    (hr : (execOp a.eval o).run P w = .ok (.comm cases blocking shape) w') :
    ∃ es, stepG P true (G (b.at a (.inRegion ops (i :: rest) :: k)) cs) w = .comm (G (b.at a (.inRegion ops (i :: rest) :: k)) cs) cases blocking shape w' es := by
  rw [stepG_oper ho hw]
  simp [stepG.apply, hr, G, Frame.at, GStep.after]
theorem fin_at {b : Frame} {k : List Item} (ho : ops[i]? = some o) (v : Value) : (b.at a (.inRegion ops (i :: rest) :: k)).finish v = b.at (a.put o.dst v) (.inRegion ops rest :: k) := by rw [Frame.finish_at, ho]; rfl
theorem AtOps.send {ch x : Operand} {c cap s r : Nat} {buf : Array Value} {tm : Bool} (ho : ops[i]? = some o) (hop : o.op = .send ch x) (hw : Region.wanted o (yielded ops a.tmps) = true)
    (hch : a.eval ch = .chan (some c)) (hc : w.heap[c]? = some (.chan cap buf false s r tm)) (hroom : buf.size < cap)
    (h : AtOps P ops Q rest (a.put o.dst undef) (w.setChan c cap (buf.push (a.eval x)) false (s + 1) r tm)) : AtOps P ops Q (i :: rest) a w := by
  intro b k cs
  obtain ⟨e, a', w'', hq, harr⟩ := h b k cs
  have hr : (execOp a.eval o).run P w = .ok (.comm #[scase c (a.eval x) (.tuple #[])] true .send) w := by simp [execOp, hop, hch, scase]
  obtain ⟨es, hs⟩ := stepG_comm_any (rest := rest) (b := b) (k := k) (cs := cs) ho hw hr
  refine ⟨e, a', w'', hq, .of_steps (.one ?_) harr⟩
  have := step_lone_send_room hs hc hroom
  rw [fin_at ho] at this
  exact this
theorem AtOps.recv_buf {c cap s r : Nat} {buf : Array Value} {tm cl : Bool} {z : Value} (ho : ops[i]? = some o) (hw : Region.wanted o (yielded ops a.tmps) = true)
    (hr : (execOp a.eval o).run P w = .ok (.comm #[rcase c z] true (.recv true)) w) (hc : w.heap[c]? = some (.chan cap buf cl s r tm)) (hsome : 0 < buf.size)
    (h : AtOps P ops Q rest (a.put o.dst (.tuple #[buf.getD 0 undef, .bool true])) (w.setChan c cap (buf.extract 1 buf.size) cl s (r + 1) tm)) : AtOps P ops Q (i :: rest) a w := by
  intro b k cs
  obtain ⟨e, a', w'', hq, harr⟩ := h b k cs
  obtain ⟨es, hs⟩ := stepG_comm_any (rest := rest) (b := b) (k := k) (cs := cs) ho hw hr
  refine ⟨e, a', w'', hq, .of_steps (.one ?_) harr⟩
  have := step_lone_recv_buf true hs hc hsome
  rw [fin_at ho] at this
  exact this
theorem AtOps.recv_shut {c cap s r : Nat} {tm : Bool} {z : Value} (ho : ops[i]? = some o) (hw : Region.wanted o (yielded ops a.tmps) = true)
    (hr : (execOp a.eval o).run P w = .ok (.comm #[rcase c z] true (.recv true)) w) (hc : w.heap[c]? = some (.chan cap #[] true s r tm))
    (h : AtOps P ops Q rest (a.put o.dst (.tuple #[z, .bool false])) w) : AtOps P ops Q (i :: rest) a w := by
  intro b k cs
  obtain ⟨e, a', w'', hq, harr⟩ := h b k cs
  obtain ⟨es, hs⟩ := stepG_comm_any (rest := rest) (b := b) (k := k) (cs := cs) ho hw hr
  refine ⟨e, a', w'', hq, .of_steps (.one ?_) harr⟩
  have := step_lone_recv_shut true hs hc
  rw [fin_at ho] at this
  exact this
theorem AtOps.nil (h : Q .normal a w) : AtOps P ops Q [] a w := AtOps.of_wp h
end
/-- What a channel of strings holds. -/
def strs (l : List ByteArray) : Array Value := (l.map Value.string).toArray
theorem strs_size (l : List ByteArray) : (strs l).size = l.length := by simp [strs]
theorem strs_push (l : List ByteArray) (x : ByteArray) : (strs l).push (.string x) = strs (l ++ [x]) := by simp [strs]
theorem strs_rest (l : List ByteArray) (x : ByteArray) : (strs (x :: l)).extract 1 (strs (x :: l)).size = strs l := by
  apply Array.toList_inj.1
  simp [strs, List.take_of_length_le]
theorem strs_first (l : List ByteArray) (x : ByteArray) : (strs (x :: l)).getD 0 undef = .string x := by simp [strs]
/-- A channel that is closed, and what it still holds. -/
def ChS (w : World) (c : Nat) (l : List ByteArray) : Prop := ∃ cap s r, w.heap[c]? = some (.chan cap (strs l) true s r false)
theorem ChS.lt {w : World} {c : Nat} {l : List ByteArray} (h : ChS w c l) : c < w.heap.size := by
  obtain ⟨cap, s, r, h⟩ := h
  exact (Array.getElem?_eq_some_iff.1 h).1
theorem ChS.below {w w' : World} {c : Nat} {l : List ByteArray} (h : ChS w c l) (hb : Below w.heap.size w w') : ChS w' c l := by
  have hl := h.lt
  obtain ⟨cap, s, r, h⟩ := h
  exact ⟨cap, s, r, (hb.block c hl).trans h⟩
theorem ChS.grown {w w' : World} {c : Nat} {l : List ByteArray} {row : Option Nat} (h : ChS w c l) (hg : w.grownBy w' row) (hne : some c ≠ row) : ChS w' c l := by
  have hl := h.lt
  obtain ⟨cap, s, r, h⟩ := h
  exact ⟨cap, s, r, (hg.block c hl hne).trans h⟩
theorem grown_setChan (w : World) (c cap : Nat) (buf : Array Value) (cl : Bool) (s r : Nat) (tm : Bool) : w.grownBy (w.setChan c cap buf cl s r tm) (some c) :=
  ⟨rfl, rfl, rfl, by simp [World.setChan], fun k _ hk => by simp only [World.setChan]; rw [Array.getElem?_setIfInBounds_ne (fun e => hk (by rw [e]))]⟩
end Go.Proofs.Ytimpngmmmoaejaa.ChanP
