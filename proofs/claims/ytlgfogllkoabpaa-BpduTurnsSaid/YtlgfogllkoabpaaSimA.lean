/-
  Two programs that part in the bodies of functions alone, and two worlds that part in dead blocks (empty rows on one side) and in how the tape is read: what a tree yields in the one it yields in the other.
-/
import Derived.Conc.Beside
namespace Go.Proofs.Ytlgfogllkoabpaa.SimP
open Go.Conc
set_option linter.unusedSimpArgs false
set_option linter.unusedVariables false

/-- The program with other functions. -/
def qOf (P : Program) (F : Array Func) : Program := { P with funcs := F }

section
variable (P : Program) (F : Array Func)
theorem q_T : (qOf P F).toTables = P.toTables := rfl
theorem q_und (t : TypeId) : (qOf P F).underlying t = P.underlying t := by unfold Program.underlying; rw [q_T]
theorem q_cellsOf (t : TypeId) : (qOf P F).cellsOf t = P.cellsOf t := by unfold Program.cellsOf; rw [q_T]
theorem q_bytesOf (t : TypeId) : (qOf P F).bytesOf t = P.bytesOf t := by unfold Program.bytesOf; rw [q_T]
theorem q_depth : (qOf P F).depth = P.depth := by unfold Program.depth; rw [q_T]
theorem q_byteOfCell : ∀ d t off, byteOfCell (qOf P F) d t off = byteOfCell P d t off
  | 0, _, _ => rfl
  | d + 1, t, off => by simp only [byteOfCell, q_und, q_cellsOf, q_bytesOf, q_byteOfCell d]
theorem q_cellHolding : ∀ d t off, cellHolding (qOf P F) d t off = cellHolding P d t off
  | 0, _, _ => rfl
  | d + 1, t, off => by simp only [cellHolding, q_und, q_cellsOf, q_bytesOf, q_cellHolding d]
theorem q_plainCell : ∀ d t off, plainCell (qOf P F) d t off = plainCell P d t off
  | 0, _, _ => rfl
  | d + 1, t, off => by simp only [plainCell, q_und, q_cellsOf, q_bytesOf, q_plainCell d]
theorem q_tight : ∀ d t, tight (qOf P F) d t = tight P d t
  | 0, _ => rfl
  | d + 1, t => by simp only [tight, q_und, q_cellsOf, q_bytesOf, q_tight d]
theorem q_seenCells (c : Array Value) (e : TypeId) : ∀ f x stop, seenCells (qOf P F) c e f x stop = seenCells P c e f x stop
  | 0, _, _ => rfl
  | f + 1, x, stop => by simp only [seenCells, q_depth, q_cellsOf, q_bytesOf, q_cellHolding, q_seenCells c e f]
theorem q_seen (w : World) (a : Addr) (u : TypeId) (k : Addr) (m : Bool) : w.seen (qOf P F) a u k m = w.seen P a u k m := by
  simp only [World.seen, q_depth, q_plainCell, q_byteOfCell, q_cellsOf, q_bytesOf, q_seenCells]
theorem q_viewLoad (w : World) (a : Addr) (u : TypeId) (k : Addr) (m : Bool) : w.viewLoad (qOf P F) a u k m = w.viewLoad P a u k m := by
  simp only [World.viewLoad, q_seen]
theorem q_viewStore (w : World) (a : Addr) (u : TypeId) (k : Addr) (v : Value) (m : Bool) : w.viewStore (qOf P F) a u k v m = w.viewStore P a u k v m := by
  simp only [World.viewStore, q_seen, q_tight, q_depth]
theorem q_eqGuardType : ∀ d t, (qOf P F).eqGuardType d t = P.eqGuardType d t
  | 0, _ => rfl
  | d + 1, t => by simp only [Program.eqGuardType, q_und, q_eqGuardType d]
end

/-! ### memory seen as another type: an empty row is never seen -/
theorem leBytes_length : ∀ s n, (leBytes s n).length = s
  | 0, _ => rfl
  | s + 1, n => by simp [leBytes, leBytes_length s]
theorem bytes_pos {v : Value} {bs : List UInt8} (h : v.bytes? = some bs) : 1 ≤ bs.length := by
  cases v <;> simp only [Value.bytes?, Option.some.injEq, reduceCtorEq] at h
  · subst h; simp
  · subst h; rw [leBytes_length]; rename_i k _; cases k <;> simp [IntKind.bits]
  · subst h; rw [leBytes_length]; rename_i k _; cases k <;> simp [FloatKind.bytes]
  · subst h; rw [List.length_append, leBytes_length]; rename_i k _ _; cases k <;> simp only [FloatKind.bytes] <;> omega
theorem seenCells_none (P : Program) (e : TypeId) (f x stop : Nat) (h : x < stop) : ∃ y, seenCells P #[] e (f + 1) x stop = .error y := by
  simp only [seenCells, if_neg (Nat.not_le.2 h), ge_iff_le]
  split
  · exact ⟨_, rfl⟩
  · split
    · exact ⟨_, rfl⟩
    · simp
theorem not_seen (P : Program) (t : TypeId) {n x : Nat} {v : Value} {l : List (Nat × Nat × List UInt8)} (h1 : (v.bytes?.map (·.length)) = some n) (h2 : seenCells P #[] t (n + 1) x (x + n) = .ok l) : False := by
  cases hb : v.bytes? with
  | none => rw [hb] at h1; cases h1
  | some bs =>
    rw [hb] at h1
    simp only [Option.map_some, Option.some.injEq] at h1
    have := bytes_pos hb
    obtain ⟨y, hy⟩ := seenCells_none P t n x (x + n) (by omega)
    rw [hy] at h2; cases h2
theorem seen_none (P : Program) (w : World) (a : Addr) (u : TypeId) (k : Addr) (m : Bool) {t : TypeId} {fr : Nat × Nat} (h : w.heap[a.block]? = some (.cells #[] t fr)) :
    ∃ y, w.seen P a u k m = .error y := by
  cases hs : w.seen P a u k m with
  | error y => exact ⟨y, rfl⟩
  | ok r =>
    exfalso
    unfold World.seen at hs
    simp only [bind, Except.bind, pure, Except.pure, throw, throwThe, MonadExceptOf.throw, h] at hs
    repeat' (split at hs <;> try (cases hs; done))
    all_goals exact not_seen P t (by assumption) (by assumption)
theorem seen_congr (P : Program) {w w' : World} {a : Addr} (h : w.heap[a.block]? = w'.heap[a.block]?) (u : TypeId) (k : Addr) (m : Bool) : w.seen P a u k m = w'.seen P a u k m := by
  simp only [World.seen, h]
theorem seen_lt (P : Program) {w : World} {a : Addr} {u : TypeId} {k : Addr} {m : Bool} {r : Array Value × TypeId × (Nat × Nat) × Nat × Value × List (Nat × Nat × List UInt8)} (h : w.seen P a u k m = .ok r) : a.block < w.heap.size := by
  unfold World.seen at h
  simp only [bind, Except.bind, pure, Except.pure, throw, throwThe, MonadExceptOf.throw] at h
  cases hb : w.heap[a.block]? with
  | some o => exact (Array.getElem?_eq_some_iff.1 hb).1
  | none =>
    exfalso
    simp only [hb] at h
    repeat' (split at h <;> try (cases h; done))

/-! ### the two worlds -/
/-- 'q' beside 'p': the same but for dead blocks, which are empty rows in q; the next n answers of the tapes are the same. -/
structure SimW (D : Nat → Prop) (n : Nat) (q p : World) : Prop where
  os : q.os = p.os
  output : q.output = p.output
  size : q.heap.size = p.heap.size
  live : ∀ b, ¬ D b → q.heap[b]? = p.heap[b]?
  dead : ∀ b, D b → ∃ c t fr, q.heap[b]? = some (.cells #[] t fr) ∧ p.heap[b]? = some (.cells c t fr)
  tape : ∀ i x, i < n → q.tape (q.drawn + i) x = p.tape (p.drawn + i) x

/-- An entry that goroutine 0 may list. -/
def EvOk (D : Nat → Prop) (N : Nat) (e : Event) : Prop :=
  match e.loc with
  | .cell a => ¬ D a.block ∧ a.block < N
  | .obj r => r < N
  | .mark .noRoom | .mark (.extern _) => True
  | .mark _ => False
  | .output | .goroutines => True
theorem EvOk.mono {D : Nat → Prop} {N N' : Nat} {e : Event} (h : EvOk D N e) (hN : N ≤ N') : EvOk D N' e := by
  unfold EvOk at *
  split at h
  · exact ⟨h.1, Nat.lt_of_lt_of_le h.2 hN⟩
  · exact Nat.lt_of_lt_of_le h hN
  all_goals exact h

/-- Halts that an operation of ours may come to. -/
def HOk : Halt → Prop
  | .panic _ | .stuck _ | .unsupported _ => True
  | _ => False

def After {α : Type} (D : Nat → Prop) (n : Nat) (q p : World) (es : Array Event) : Result α × Array Event → Result α × Array Event → Prop
  | (.ok x q', e₁), r => ∃ k, q'.drawn = q.drawn + k ∧ q'.tape = q.tape ∧ q.heap.size ≤ q'.heap.size ∧
      (k ≤ n → ∃ p', r = (.ok x p', e₁) ∧ p'.drawn = p.drawn + k ∧ p'.tape = p.tape ∧ SimW D (n - k) q' p' ∧ ∀ e ∈ e₁, e ∈ es ∨ EvOk D q'.heap.size e)
  | (.halt h _, _), _ => HOk h

section
variable {P : Program} {F : Array Func}
/-- The first tree in the program with other functions, the second in the program. -/
def Sim (P : Program) (F : Array Func) {α : Type} (s₁ s₂ : Sem α) : Prop :=
  ∀ (D : Nat → Prop) (n : Nat) (q p : World) (es : Array Event), SimW D n q p → After D n q p es (s₁.runT (qOf P F) q es) (s₂.runT P p es)

theorem Sim.pure {α : Type} (x : α) : Sim P F (Pure.pure x) (Pure.pure x) :=
  fun D n q p es h => ⟨0, rfl, rfl, Nat.le_refl _, fun _ => ⟨p, rfl, rfl, rfl, h, fun e he => .inl he⟩⟩
theorem Sim.halt {α : Type} {x : Halt} (hx : HOk x) (s₂ : Sem α) : Sim P F (.halt x) s₂ := fun D n q p es h => hx
theorem Sim.stuck {α : Type} (x : String) (s₂ : Sem α) : Sim P F (Go.stuck x) s₂ := Sim.halt (x := .stuck x) trivial s₂
theorem Sim.unsupported {α : Type} (x : Unsupported) (s₂ : Sem α) : Sim P F (Go.unsupported x) s₂ := Sim.halt (x := .unsupported x) trivial s₂
theorem Sim.goPanic {α : Type} (x : Value) (s₂ : Sem α) : Sim P F (Go.goPanic x) s₂ := Sim.halt (x := .panic x) trivial s₂

theorem Sim.bind {α β : Type} {s₁ s₂ : Sem α} {f₁ f₂ : α → Sem β} (h : Sim P F s₁ s₂) (hf : ∀ x, Sim P F (f₁ x) (f₂ x)) : Sim P F (s₁ >>= f₁) (s₂ >>= f₂) := by
  intro D n q p es hw
  have h0 := h D n q p es hw
  show After D n q p es ((s₁.bind f₁).runT _ q es) ((s₂.bind f₂).runT P p es)
  rw [Sem.runT_bind', Sem.runT_bind']
  revert h0
  cases s₁.runT (qOf P F) q es with
  | mk r e₁ =>
    cases r with
    | halt x q' => exact fun h0 => h0
    | ok x q' =>
      rintro ⟨k, h1, h2, h3, h4⟩
      simp only
      by_cases hk : k ≤ n
      · obtain ⟨p', hr, g1, g2, g3, g4⟩ := h4 hk
        simp only [hr]
        have h5 := hf x D (n - k) q' p' e₁ g3
        revert h5
        cases (f₁ x).runT (qOf P F) q' e₁ with
        | mk r₂ e₂ =>
          cases r₂ with
          | halt y q'' => exact fun h0 => h0
          | ok y q'' =>
            rintro ⟨k', i1, i2, i3, i4⟩
            refine ⟨k + k', by omega, i2.trans h2, Nat.le_trans h3 i3, fun hkk => ?_⟩
            obtain ⟨p'', j0, j1, j2, j3, j4⟩ := i4 (by omega)
            refine ⟨p'', j0, by omega, j2.trans g2, by rw [← Nat.sub_sub]; exact j3, fun e he => ?_⟩
            rcases j4 e he with h6 | h6
            · exact (g4 e h6).imp id (·.mono i3)
            · exact .inr h6
      · have h5 := hf x (fun _ => False) 0 q' q' e₁ ⟨rfl, rfl, rfl, fun _ _ => rfl, fun _ h => h.elim, fun _ _ h => absurd h (Nat.not_lt_zero _)⟩
        revert h5
        cases (f₁ x).runT (qOf P F) q' e₁ with
        | mk r₂ e₂ =>
          cases r₂ with
          | halt y q'' => exact fun h0 => h0
          | ok y q'' =>
            rintro ⟨k', i1, i2, i3, i4⟩
            exact ⟨k + k', by omega, i2.trans h2, Nat.le_trans h3 i3, fun hkk => absurd hkk (by omega)⟩

theorem Sim.map {α β : Type} {s₁ s₂ : Sem α} (f : α → β) (h : Sim P F s₁ s₂) : Sim P F (f <$> s₁) (f <$> s₂) := Sim.bind h fun x => Sim.pure (f x)

theorem Sim.program {α : Type} {f₁ f₂ : Program → Sem α} (h : Sim P F (f₁ (qOf P F)) (f₂ P)) : Sim P F (Go.program >>= f₁) (Go.program >>= f₂) := h

theorem SimW.cell {D : Nat → Prop} {n : Nat} {q p : World} (h : SimW D n q p) {a : Addr} (ha : ¬ D a.block) : q.cell? a = p.cell? a := by simp only [World.cell?, h.live _ ha]
theorem SimW.cell_dead {D : Nat → Prop} {n : Nat} {q p : World} (h : SimW D n q p) {a : Addr} (ha : D a.block) : q.cell? a = none := by
  obtain ⟨c, t, fr, h1, _⟩ := h.dead _ ha
  simp [World.cell?, h1]
theorem cell_lt {w : World} {a : Addr} {v : Value} (h : w.cell? a = some v) : a.block < w.heap.size := by
  unfold World.cell? at h
  cases hb : w.heap[a.block]? with
  | none => simp [hb] at h
  | some o => exact (Array.getElem?_eq_some_iff.1 hb).1
theorem SimW.frozen {D : Nat → Prop} {n : Nat} {q p : World} (h : SimW D n q p) (a : Addr) : q.frozen? a = p.frozen? a := by
  by_cases ha : D a.block
  · obtain ⟨c, t, fr, h1, h2⟩ := h.dead _ ha
    simp [World.frozen?, h1, h2]
  · simp only [World.frozen?, h.live _ ha]

theorem noCell_ok (w : World) (a : Addr) (s : String) : HOk (w.noCell a s) := by
  unfold World.noCell
  split <;> trivial

theorem SimW.seen {D : Nat → Prop} {n : Nat} {q p : World} (h : SimW D n q p) {a : Addr} {u : TypeId} {k : Addr} {m : Bool} {r : Array Value × TypeId × (Nat × Nat) × Nat × Value × List (Nat × Nat × List UInt8)}
    (hs : q.seen P a u k m = .ok r) : ¬ D a.block ∧ a.block < q.heap.size ∧ p.seen P a u k m = .ok r := by
  have hd : ¬ D a.block := fun hd => by
    obtain ⟨c, t, fr, h1, _⟩ := h.dead _ hd
    obtain ⟨y, hy⟩ := seen_none P q a u k m h1
    rw [hy] at hs; cases hs
  exact ⟨hd, seen_lt P hs, by rw [← seen_congr P (h.live _ hd)]; exact hs⟩

theorem SimW.farLoad {D : Nat → Prop} {n : Nat} {q p : World} (h : SimW D n q p) {a : Addr} {m : Bool} {v : Value} {l : List Addr} (hf : q.farLoad (qOf P F) a m = .ok (v, l)) :
    p.farLoad P a m = .ok (v, l) ∧ ∀ x ∈ l, ¬ D x.block ∧ x.block < q.heap.size := by
  unfold World.farLoad at hf
  have ha : ¬ D a.block := fun hd => by
    obtain ⟨c, t, fr, h1, _⟩ := h.dead _ hd
    simp [h1] at hf
  rw [h.live _ ha] at hf
  unfold World.farLoad
  split at hf
  · rename_i at_ u hb
    simp only [hb, q_viewLoad] at hf ⊢
    split at hf
    · rename_i r hr
      cases hf
      unfold World.viewLoad at hr ⊢
      cases hs : q.seen P at_ u a m with
      | error y => simp [hs, bind, Except.bind] at hr
      | ok r =>
        obtain ⟨h1, h2, h3⟩ := h.seen hs
        simp only [hs, h3, bind, Except.bind] at hr ⊢
        split at hr
        · cases hr
          refine ⟨rfl, fun x hx => ?_⟩
          simp only [List.mem_map] at hx
          obtain ⟨y, _, rfl⟩ := hx
          exact ⟨h1, h2⟩
        · cases hr
    · cases hf
  · cases hf

theorem SimW.set {D : Nat → Prop} {n : Nat} {q p : World} (h : SimW D n q p) {b : Nat} (hb : ¬ D b) (o : Obj) :
    SimW D n { q with heap := q.heap.setIfInBounds b o } { p with heap := p.heap.setIfInBounds b o } := by
  refine ⟨h.os, h.output, by simp [h.size], fun c hc => ?_, fun c hc => ?_, h.tape⟩
  · simp only [Array.getElem?_setIfInBounds]
    split
    · rw [h.size]
    · exact h.live c hc
  · have hne : b ≠ c := fun e => hb (e ▸ hc)
    simp only [Array.getElem?_setIfInBounds_ne hne]
    exact h.dead c hc
theorem SimW.modify {D : Nat → Prop} {n : Nat} {q p : World} (h : SimW D n q p) {b : Nat} (hb : ¬ D b) (f : Obj → Obj) :
    SimW D n { q with heap := q.heap.modify b f } { p with heap := p.heap.modify b f } := by
  refine ⟨h.os, h.output, by simp [h.size], fun c hc => ?_, fun c hc => ?_, h.tape⟩
  · simp only [Array.getElem?_modify, h.live c hc]
  · have hne : b ≠ c := fun e => hb (e ▸ hc)
    simp only [Array.getElem?_modify, if_neg hne]
    exact h.dead c hc
theorem SimW.push {D : Nat → Prop} {n : Nat} {q p : World} (h : SimW D n q p) (o : Obj) :
    SimW D n { q with heap := q.heap.push o } { p with heap := p.heap.push o } := by
  refine ⟨h.os, h.output, by simp [h.size], fun c hc => ?_, fun c hc => ?_, h.tape⟩
  · simp only [Array.getElem?_push, h.size]
    split
    · rfl
    · exact h.live c hc
  · obtain ⟨x, t, fr, h1, h2⟩ := h.dead c hc
    have : c < q.heap.size := (Array.getElem?_eq_some_iff.1 h1).1
    have h3 : c ≠ q.heap.size := by omega
    have h4 : c ≠ p.heap.size := by rw [← h.size]; exact h3
    simp only [Array.getElem?_push, if_neg h3, if_neg h4]
    exact ⟨x, t, fr, h1, h2⟩
theorem SimW.drew {D : Nat → Prop} {n : Nat} {q p : World} (h : SimW D n q p) : SimW D (n - 1) { q with drawn := q.drawn + 1 } { p with drawn := p.drawn + 1 } :=
  ⟨h.os, h.output, h.size, h.live, h.dead, fun i x hi => by
    have := h.tape (i + 1) x (by omega)
    simp only [Nat.add_assoc, Nat.add_comm 1 i]
    exact this⟩
theorem SimW.freeze {D : Nat → Prop} {n : Nat} {q p : World} (h : SimW D n q p) {a : Addr} (ha : ¬ D a.block) (k : Nat) : SimW D n (q.freeze a k) (p.freeze a k) := by
  unfold World.freeze
  split
  · exact h
  · exact h.modify ha _
theorem SimW.setCell {D : Nat → Prop} {n : Nat} {q p : World} (h : SimW D n q p) {a : Addr} (ha : ¬ D a.block) (v : Value) : SimW D n (q.setCell a v) (p.setCell a v) := h.modify ha _

theorem After.still {α : Type} {D : Nat → Prop} {n : Nat} {q p q' p' : World} {es e₁ : Array Event} {x : α} (hq : q'.drawn = q.drawn) (hqt : q'.tape = q.tape) (hs : q.heap.size ≤ q'.heap.size)
    (hp : p'.drawn = p.drawn) (hpt : p'.tape = p.tape) (h : SimW D n q' p') (he : ∀ e ∈ e₁, e ∈ es ∨ EvOk D q'.heap.size e) : After D n q p es (.ok x q', e₁) (.ok x p', e₁) :=
  ⟨0, hq, hqt, hs, fun _ => ⟨p', rfl, hp, hpt, h, he⟩⟩

theorem Sim.load (a : Addr) (m : Mode) : Sim P F (Go.load a m) (Go.load a m) := by
  intro D n q p es h
  simp only [Go.load, Sem.runT]
  cases hc : q.cell? a with
  | some v =>
    have hd : ¬ D a.block := fun hd => by rw [h.cell_dead hd] at hc; cases hc
    rw [← h.cell hd, hc]
    refine .still rfl rfl (Nat.le_refl _) rfl rfl h fun e he => ?_
    rcases Array.mem_push.1 he with he | rfl
    · exact .inl he
    · exact .inr ⟨hd, cell_lt hc⟩
  | none =>
    simp only
    cases hf : q.farLoad (qOf P F) a (m == .atomic) with
    | error x =>
      simp only
      unfold World.farLoad at hf
      split at hf
      · split at hf
        · cases hf
        · cases hf; trivial
      · cases hf; exact noCell_ok _ _ _
    | ok r =>
      obtain ⟨v, l⟩ := r
      obtain ⟨h1, h2⟩ := h.farLoad hf
      have hn : p.cell? a = none := by
        unfold World.farLoad at h1
        split at h1
        · rename_i at_ u hb
          simp [World.cell?, hb]
        · cases h1
      simp only [hn, h1]
      refine .still rfl rfl (Nat.le_refl _) rfl rfl h fun e he => ?_
      rcases Array.mem_append.1 he with he | he
      · exact .inl he
      · simp only [List.map_toArray, List.mem_toArray, List.mem_map] at he
        obtain ⟨x, hx, rfl⟩ := he
        exact .inr (h2 x hx)

theorem SimW.farStore {D : Nat → Prop} {n : Nat} {q p q' : World} (h : SimW D n q p) {a : Addr} {v : Value} {m : Bool} {l : List Addr} (hf : q.farStore (qOf P F) a v m = .ok (q', l)) :
    ∃ p', p.farStore P a v m = .ok (p', l) ∧ SimW D n q' p' ∧ (q'.drawn = q.drawn ∧ q'.tape = q.tape ∧ q'.heap.size = q.heap.size) ∧ (p'.drawn = p.drawn ∧ p'.tape = p.tape) ∧ ∀ x ∈ l, ¬ D x.block ∧ x.block < q.heap.size := by
  unfold World.farStore at hf
  have ha : ¬ D a.block := fun hd => by
    obtain ⟨c, t, fr, h1, _⟩ := h.dead _ hd
    simp [h1] at hf
  rw [h.live _ ha] at hf
  unfold World.farStore
  split at hf
  · rename_i at_ u hb
    simp only [hb, q_viewStore] at hf ⊢
    split at hf
    · rename_i r hr
      cases hf
      unfold World.viewStore at hr ⊢
      simp only [bind, Except.bind, pure, Except.pure, throw, throwThe, MonadExceptOf.throw] at hr ⊢
      split at hr
      · cases hr
      · rename_i ht
        simp only [ht, if_false, Bool.false_eq_true] at hr ⊢
        cases hs : q.seen P at_ u a m with
        | error y => simp [hs] at hr
        | ok r =>
          obtain ⟨h1, h2, h3⟩ := h.seen hs
          obtain ⟨c, e, frz, first, like, cells⟩ := r
          simp only [hs, h3] at hr ⊢
          repeat' (split at hr <;> try (cases hr; done))
          cases hr
          refine ⟨_, by rw [if_neg (by assumption)], h.set h1 _, ⟨rfl, rfl, by simp⟩, ⟨rfl, rfl⟩, fun x hx => ?_⟩
          simp only [List.mem_map] at hx
          obtain ⟨y, _, rfl⟩ := hx
          exact ⟨h1, h2⟩
    · cases hf
  · cases hf

theorem Sim.store (a : Addr) (v : Value) (m : Mode) : Sim P F (Go.store a v m) (Go.store a v m) := by
  intro D n q p es h
  by_cases hv : v.oneCell' = true
  · have key : ∀ (X : Program) (w : World) (es : Array Event), (Go.store a v m).runT X w es = match w.cell? a with
        | some _ => if w.frozen? a then (.halt (.unsupported (.unsafePointer "a write to bytes that a string shares")) w, es) else (.ok () (w.setCell a v), es.push ⟨.cell a, true, m == .atomic⟩)
        | none => match w.farStore X a v (m == .atomic) with
          | .ok (w, touched) => (.ok () w, es ++ touched.toArray.map (⟨.cell ·, true, m == .atomic⟩))
          | .error h => (.halt h w, es) := by
      intro X w es
      cases v <;> first
        | (simp [Value.oneCell'] at hv; done)
        | (simp only [Go.store, Sem.runT]; cases w.cell? a <;> first | rfl | (split <;> rfl))
    rw [key, key]
    cases hc : q.cell? a with
    | some x =>
      have hd : ¬ D a.block := fun hd => by rw [h.cell_dead hd] at hc; cases hc
      rw [← h.cell hd, hc, ← h.frozen a]
      simp only
      split
      · trivial
      · refine .still rfl rfl (by simp [World.setCell]) rfl rfl (h.setCell hd v) fun e he => ?_
        rcases Array.mem_push.1 he with he | rfl
        · exact .inl he
        · exact .inr ⟨hd, by simpa [World.setCell] using cell_lt hc⟩
    | none =>
      simp only
      cases hf : q.farStore (qOf P F) a v (m == .atomic) with
      | error x =>
        simp only
        unfold World.farStore at hf
        split at hf
        · split at hf
          · cases hf
          · cases hf; trivial
        · cases hf; exact noCell_ok _ _ _
      | ok r =>
        obtain ⟨q', l⟩ := r
        obtain ⟨p', h1, h2, ⟨h3, h4, h5⟩, ⟨h6, h7⟩, h8⟩ := h.farStore hf
        have hn : p.cell? a = none := by
          unfold World.farStore at h1
          split at h1
          · rename_i at_ u hb
            simp [World.cell?, hb]
          · cases h1
        simp only [hn, h1]
        refine .still h3 h4 (Nat.le_of_eq h5.symm) h6 h7 h2 fun e he => ?_
        rcases Array.mem_append.1 he with he | he
        · exact .inl he
        · simp only [List.map_toArray, List.mem_toArray, List.mem_map] at he
          obtain ⟨x, hx, rfl⟩ := he
          exact .inr (by rw [h5]; exact h8 x hx)
  · have key : ∀ (X : Program) (w : World) (es : Array Event), (Go.store a v m).runT X w es = (.halt (.stuck "store: not the value of one cell") w, es) := by
      intro X w es
      cases v <;> first
        | (simp [Value.oneCell'] at hv; done)
        | rfl
    rw [key]
    trivial

theorem Sim.newObj (o : Obj) : Sim P F (Go.newObj o) (Go.newObj o) := by
  intro D n q p es h
  simp only [Go.newObj, Sem.runT]
  rw [← h.size]
  exact .still rfl rfl (by simp) rfl rfl (h.push o) fun e he => .inl he

theorem Sim.freeze_live {D : Nat → Prop} {n : Nat} {q p : World} (es : Array Event) (h : SimW D n q p) {a : Addr} (ha : ¬ D a.block) (k : Nat) :
    After D n q p es ((Go.freeze a k).runT (qOf P F) q es) ((Go.freeze a k).runT P p es) := by
  simp only [Go.freeze, Sem.runT]
  refine .still ?_ ?_ ?_ ?_ ?_ (h.freeze ha k) fun e he => .inl he <;> (unfold World.freeze; split <;> first | rfl | simp)

theorem Sim.frozen (a : Addr) : Sim P F (Go.frozen a) (Go.frozen a) := by
  intro D n q p es h
  simp only [Go.frozen, Sem.runT, h.frozen a]
  exact .still rfl rfl (Nat.le_refl _) rfl rfl h fun e he => .inl he

/-- How many cells a block has may not be told of a dead one. -/
theorem Sim.shape {α : Type} (r : Nat) {f₁ f₂ : Option (TypeId × Nat) → Sem α} (hf : ∀ s, Sim P F (f₁ s) (f₂ s)) (hd : ∀ t k, Sim P F (f₁ (some (t, 0))) (f₂ (some (t, k)))) :
    Sim P F (Go.shape r >>= f₁) (Go.shape r >>= f₂) := by
  intro D n q p es h
  show After D n q p es ((f₁ (q.shape? r)).runT _ q es) ((f₂ (p.shape? r)).runT P p es)
  by_cases hr : D r
  · obtain ⟨c, t, fr, h1, h2⟩ := h.dead _ hr
    simp only [World.shape?, h1, h2]
    exact hd t c.size D n q p es h
  · simp only [World.shape?, h.live _ hr]
    exact hf _ D n q p es h
/-- .. but whether it is a row. -/
theorem Sim.shapeIs {α : Type} (r : Nat) {f₁ f₂ : Option (TypeId × Nat) → Sem α} (hf : ∀ s, Sim P F (f₁ s) (f₂ s)) (hd : ∀ t k, f₁ (some (t, 0)) = f₁ (some (t, k))) :
    Sim P F (Go.shape r >>= f₁) (Go.shape r >>= f₂) := Sim.shape r hf fun t k => by rw [hd t k]; exact hf _

theorem Sim.getObj (r : Nat) : Sim P F (Go.getObj r) (Go.getObj r) := by
  intro D n q p es h
  simp only [Go.getObj, Sem.runT]
  by_cases hr : D r
  · obtain ⟨c, t, fr, h1, h2⟩ := h.dead _ hr
    simp only [h1]
    trivial
  · rw [h.live _ hr]
    cases hb : p.heap[r]? with
    | none => trivial
    | some o =>
      have hlt : r < q.heap.size := by rw [h.size]; exact (Array.getElem?_eq_some_iff.1 hb).1
      cases o with
      | cells => trivial
      | _ =>
        refine .still rfl rfl (Nat.le_refl _) rfl rfl h fun e he => ?_
        rcases Array.mem_push.1 he with he | rfl
        · exact .inl he
        · exact .inr hlt

theorem Sim.setObj (r : Nat) (o : Obj) : Sim P F (Go.setObj r o) (Go.setObj r o) := by
  intro D n q p es h
  simp only [Go.setObj, Sem.runT]
  by_cases hr : D r
  · obtain ⟨c, t, fr, h1, h2⟩ := h.dead _ hr
    simp only [h1]
    trivial
  · rw [h.live _ hr]
    cases hb : p.heap[r]? with
    | none => trivial
    | some x =>
      have hlt : r < q.heap.size := by rw [h.size]; exact (Array.getElem?_eq_some_iff.1 hb).1
      cases x with
      | cells => trivial
      | _ =>
        refine .still rfl rfl (by simp) rfl rfl (h.set hr o) fun e he => ?_
        rcases Array.mem_push.1 he with he | rfl
        · exact .inl he
        · exact .inr (by simpa [EvOk] using hlt)

theorem Sim.choose (x : Question) : Sim P F (Go.choose x) (Go.choose x) := by
  intro D n q p es h
  simp only [Go.choose, Sem.runT]
  split
  · exact .still rfl rfl (Nat.le_refl _) rfl rfl h fun e he => .inl he
  · refine ⟨1, rfl, rfl, Nat.le_refl _, fun hk => ?_⟩
    have ht := h.tape 0 x (by omega)
    simp only [Nat.add_zero] at ht
    rw [ht]
    exact ⟨_, rfl, rfl, rfl, h.drew, fun e he => .inl he⟩

theorem Sim.noRoom : Sim P F (Go.mark .noRoom) (Go.mark .noRoom) := by
  intro D n q p es h
  simp only [Go.mark, Sem.runT]
  refine .still rfl rfl (Nat.le_refl _) rfl rfl h fun e he => ?_
  rcases Array.mem_push.1 he with he | rfl
  · exact .inl he
  · exact .inr trivial
end
end Go.Proofs.Ytlgfogllkoabpaa.SimP
