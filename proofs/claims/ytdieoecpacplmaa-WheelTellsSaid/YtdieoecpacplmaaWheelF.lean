/-
  Contract of wheel.split.
-/
import Derived.Test.YtdieoecpacplmaaWheelM
namespace Go.Proofs.Ytdieoecpacplmaa.WheelP
open Go.RowKit Go.Sort Go.Proofs.Ytdieoecpacplmaa.SliceP Go.Proofs.Ytdieoecpacplmaa.MacP
set_option linter.unusedVariables false
set_option maxRecDepth 100000

def nilS : Value := .slice none 0 0
def nils : List Value := List.replicate 64 nilS
def setAll : List Value → Nat → List Value → List Value
  | xs, _, [] => xs
  | xs, o, v :: r => setAll (xs.set o v) (o + 1) r
theorem setAll_eq : ∀ (vs xs : List Value) (o : Nat), o + vs.length ≤ xs.length → setAll xs o vs = xs.take o ++ vs ++ xs.drop (o + vs.length)
  | [], xs, o, h => by simp [setAll]
  | v :: r, xs, o, h => by
    rw [setAll, setAll_eq r _ _ (by simp at h ⊢; omega)]
    have ho : o < xs.length := by simp at h; omega
    rw [List.take_set, List.drop_set, if_pos (by omega)]
    have e : (xs.take (o + 1)).set o v = xs.take o ++ [v] := by
      rw [List.take_succ_eq_append_getElem ho, List.set_append_right _ _ (by simp [Nat.min_eq_left (Nat.le_of_lt ho)])]
      simp [Nat.min_eq_left (Nat.le_of_lt ho)]
    rw [e]
    simp [List.append_assoc, Nat.add_assoc, Nat.add_comm 1]
theorem stored_all {base cap g n size : Nat} {e : TypeId} : ∀ (vs xs : List Value) (o : Nat) (w : World), w.ownsRow base e size (.slice (some ⟨g, 0, none⟩) n cap) n xs →
    (w.setCells g o vs).ownsRow base e size (.slice (some ⟨g, 0, none⟩) n cap) n (setAll xs o vs) ∧ w.grownBy (w.setCells g o vs) (some g)
  | [], xs, o, w, h => ⟨h, World.grownBy.refl _ _⟩
  | v :: r, xs, o, w, h => by
    have h1 := World.ownsRow.stored h o v
    have h2 := stored_all r (xs.set o v) (o + 1) (w.setCell ⟨g, o, none⟩ v) h1.1
    exact ⟨h2.1, grown_trans h1.2 h2.2 fun j hj => .inr hj⟩
theorem cleared {w : World} {sb : Nat} {vs : List Value} (h : OwnS w sb vs) : OwnS (w.setCells sb 0 nils) sb nils ∧ w.grownBy (w.setCells sb 0 nils) (some sb) := by
  have h1 := stored_all nils vs 0 w h
  have hl : vs.length = 64 := h.1
  have hn : nils.length = 64 := by simp [nils]
  rw [setAll_eq nils vs 0 (by omega)] at h1
  rw [List.take_zero, List.nil_append, List.drop_eq_nil_of_le (by omega), List.append_nil] at h1
  exact h1
theorem run_clear {w : World} {sb : Nat} {vs : List Value} (h : OwnS w sb vs) (ty : TypeId) : (Builtin.clear_ #[57] ty #[slotsV sb]).run Try.prog w = .ok (.tuple #[]) (w.setCells sb 0 nils) :=
  Lib.run_clear_slice w 57 22 ty nilS Try.underlying57 (fun w => by kernel_rfl) rfl rfl sb 0 64 64 (by decide)
    (fun j hj => by
      have hl : vs.length = 64 := h.1
      rw [Nat.zero_add, World.ownsRow.cellAt h j (by omega), List.getElem?_eq_getElem (by omega)]; rfl)
    (fun j hj => by rw [Nat.zero_add]; exact World.ownsRow.frozenAt h j)

/-- Where a split stands. -/
structure SpI (w : World) (l : List T) (t : Int) (p : Nat) (v4 v5 v6 : Value) (b s a : List T) (wr : World) : Prop where
  math : SplitI l t p b s a
  o4 : OwnT wr (w.heap.size + 1) v4 b
  s5 : ∃ A c, v5 = .slice A s.length c ∧ SlT wr A s ∧ (A = none → c = 0) ∧ ∀ b o, A = some ⟨b, o, none⟩ → s ≠ [] → b ≠ w.heap.size
  o5 : p < 7 → OwnT wr (w.heap.size + 1) v5 s
  o6 : OwnT wr (w.heap.size + 1) v6 a
  d45 : v4.ownBlock = none ∨ v4.ownBlock ≠ v5.ownBlock
  d46 : v4.ownBlock = none ∨ v4.ownBlock ≠ v6.ownBlock
  d56 : v5.ownBlock = none ∨ v5.ownBlock ≠ v6.ownBlock
  row : OwnS wr w.heap.size nils
  bel : Below w.heap.size w wr
def plc : Nat → Int
  | 0 => -1
  | q + 1 => (q : Int)
theorem plc_down (q : Nat) : Value.int .i64 ((q : Int) - 1) = .int .i64 (plc q) := by
  cases q with
  | zero => rfl
  | succ q => show Value.int .i64 (((q + 1 : Nat) : Int) - 1) = .int .i64 (q : Int); congr 1; omega

theorem slots_sl {wr w1 : World} {sb p : Nat} {s : List T} {vs : List Value} (h : LayI wr sb p s vs w1) (hsb : sb < wr.heap.size) (n : Nat) (L : List (List T)) (hL : ∀ k l, L[k]? = some l → n + k < 64 ∧ l = slotL s p (n + k)) {w3 : World} (hg : ∀ v, v ∈ vs → ∀ xs, Own w1 wr.heap.size 24 2 v xs → Own w3 wr.heap.size 24 2 v xs) (hr : OwnS w3 sb vs) (hlt : sb < w3.heap.size) : SlLT w3 (some ⟨sb, n, none⟩) L := fun _ => by
  refine ⟨sb, n, rfl, hlt, fun k xs hk => ?_⟩
  rw [List.getElem?_map] at hk
  cases hl : L[k]? with
  | none => rw [hl] at hk; cases hk
  | some l =>
    rw [hl] at hk
    obtain rfl : l.map T.cells = xs := by simpa using hk
    obtain ⟨hlt', rfl⟩ := hL k l hl
    have hlen : vs.length = 64 := h.row.1
    obtain ⟨v, hv⟩ : ∃ v, vs[n + k]? = some v := ⟨_, List.getElem?_eq_getElem (by omega)⟩
    have ho := hg v (List.mem_of_getElem? hv) _ (h.own (n + k) v hv)
    obtain ⟨A, c, rfl, _, _, hA⟩ := ho.form
    refine ⟨A, c, ?_, fun hn => ?_, ho.sl (by decide)⟩
    · rw [World.ownsRow.cellAt hr (n + k) (by omega)]; exact hv
    · rcases hA with ⟨_, _, h0⟩ | ⟨g, h1, _⟩
      · exact h0
      · rw [hn] at h1; cases h1
theorem mem_at {vs : List Value} {v : Value} (h : v ∈ vs) : ∃ j : Nat, vs[j]? = some v := by
  obtain ⟨j, hj, rfl⟩ := List.mem_iff_getElem.1 h
  exact ⟨j, List.getElem?_eq_getElem hj⟩
/-- Behind the laying: what the first Concat asks. -/
theorem sp_one {w wr w1 : World} {l b s a : List T} {t : Int} {q d : Nat} {v4 v5 v6 : Value} {vs : List Value} (h : SpI w l t (q + 1) v4 v5 v6 b s a wr) (hl : LayI wr w.heap.size q s vs w1) (hd : d < 64) :
    SlLT w1 (some ⟨w.heap.size, 0, none⟩) ((slotsL s q).take d) ∧ OwnT w1 (w.heap.size + 1) v4 b ∧ OwnT w1 (w.heap.size + 1) v6 a := by
  have hsb : w.heap.size < wr.heap.size := by
    have := (h.row.lt w.heap.size rfl).2; exact this
  refine ⟨slots_sl hl hsb 0 _ (fun k x hk => ?_) (fun v hv xs hx => hx) hl.row (Nat.lt_of_lt_of_le hsb hl.gr.size), h.o4.kept hl.gr (.inr fun e => by have := (h.o4.lt _ e).1; omega), h.o6.kept hl.gr (.inr fun e => by have := (h.o6.lt _ e).1; omega)⟩
  rw [List.getElem?_take] at hk
  split at hk
  · rw [Nat.zero_add]
    refine ⟨by omega, ?_⟩
    rw [slotsL_at s q k (by omega)] at hk
    exact (Option.some.inj hk).symm
  · cases hk
/-- Behind the first append: what the second Concat asks, and the slot. -/
theorem sp_two {w wr w1 w2 w3 : World} {l b s a : List T} {t : Int} {q d : Nat} {v4 v5 v6 vd : Value} {vs : List Value} (h : SpI w l t (q + 1) v4 v5 v6 b s a wr) (hl : LayI wr w.heap.size q s vs w1) (hd : d < 64) (hvd : vs[d]? = some vd)
    (hb : Below w1.heap.size w1 w2) (hg : w2.grownBy w3 v4.ownBlock) :
    SlLT w3 (some ⟨w.heap.size, d + 1, none⟩) ((slotsL s q).drop (d + 1)) ∧ OwnT w3 wr.heap.size vd (slotL s q d) ∧ w3.cell? ⟨w.heap.size, d, none⟩ = some vd ∧ OwnT w3 (w.heap.size + 1) v6 a ∧ OwnS w3 w.heap.size vs := by
  have hsb : w.heap.size < wr.heap.size := (h.row.lt w.heap.size rfl).2
  have h4 := h.o4.lt
  have r2 : OwnS w2 w.heap.size vs := hl.row.kept (grown_none hb) (by simp [Value.ownBlock])
  have r3 : OwnS w3 w.heap.size vs := r2.kept hg (.inr fun e => by have : w.heap.size + 1 ≤ w.heap.size := (h4 _ e.symm).1; omega)
  have hk : ∀ v ∈ vs, ∀ xs, Own w1 wr.heap.size 24 2 v xs → Own w3 wr.heap.size 24 2 v xs := fun v hv xs hx => by
    refine (hx.below hb).kept hg ?_
    cases hq : v.ownBlock with
    | none => exact .inl rfl
    | some g =>
      refine .inr fun e => ?_
      have h5 := (hx.lt g hq).1
      have h6 := (h4 g e.symm).2
      omega
  have o6 : OwnT w1 (w.heap.size + 1) v6 a := h.o6.kept hl.gr (.inr fun e => by have := (h.o6.lt _ e).1; omega)
  refine ⟨slots_sl hl hsb (d + 1) _ (fun k x hk => ?_) hk r3 ?_, hk vd (List.mem_of_getElem? hvd) _ (hl.own d vd hvd), ?_, (o6.below hb).kept hg ?_, r3⟩
  · rw [List.getElem?_drop] at hk
    have hlt : d + 1 + k < 64 := by
      have := (List.getElem?_eq_some_iff.1 hk).1
      rwa [slotsL_length] at this
    refine ⟨hlt, ?_⟩
    rw [slotsL_at s q (d + 1 + k) hlt] at hk
    exact (Option.some.inj hk).symm
  · exact Nat.lt_of_lt_of_le (Nat.lt_of_lt_of_le (Nat.lt_of_lt_of_le hsb hl.gr.size) hb.size) hg.size
  · rw [World.ownsRow.cellAt r3 d (by omega)]; exact hvd
  · cases hq : v6.ownBlock with
    | none => exact .inl rfl
    | some g =>
      refine .inr fun e => ?_
      rcases h.d46 with h7 | h7
      · rw [h7] at e; cases e
      · exact h7 (by rw [← e, hq])
/-- A round whole. -/
theorem sp_step {w wr w1 w2 w3 w4 w5 : World} {l b s a X Y : List T} {t : Int} {q d : Nat} {v4 v5 v6 vd v4' vY v6' : Value} {vs : List Value} (h : SpI w l t (q + 1) v4 v5 v6 b s a wr) (hq : q < 7) (hl : LayI wr w.heap.size q s vs w1) (hd : d < 64) (hvd : vs[d]? = some vd)
    (hb : Below w1.heap.size w1 w2) (hX : X = ((slotsL s q).take d).flatten) (hY : Y = ((slotsL s q).drop (d + 1)).flatten) (hs : SortedT l) (hdt : dig t q = (d : Int))
    (own4 : OwnT w3 (w.heap.size + 1) v4' (b ++ X)) (hg : w2.grownBy w3 v4.ownBlock) (hor : v4'.ownBlock = v4.ownBlock ∨ v4'.ownBlock = some w2.heap.size)
    (ownY : OwnT w4 w3.heap.size vY Y) (hb4 : Below w3.heap.size w3 w4) (own6 : OwnT w5 w3.heap.size v6' (Y ++ a)) (hg5 : w4.grownBy w5 vY.ownBlock) :
    SpI w l t q v4' vd v6' (b ++ X) (slotL s q d) (Y ++ a) (w5.setCells w.heap.size 0 nils) ∧ OwnS w5 w.heap.size vs := by
  obtain ⟨_, ownd, _, _, r3⟩ := sp_two h hl hd hvd hb hg
  have hsb : w.heap.size < wr.heap.size := (h.row.lt w.heap.size rfl).2
  have z1 := hl.gr.size
  have z2 := hb.size
  have z3 := hg.size
  have z4 := hb4.size
  have z5 := hg5.size
  have g35 : w3.grownBy w5 none := grown_trans (grown_none hb4) hg5 fun j hj => .inl (ownY.lt j hj).1
  have r5 : OwnS w5 w.heap.size vs := r3.kept g35 (by simp [Value.ownBlock])
  have hc := cleared r5
  have o4 : OwnT w5 (w.heap.size + 1) v4' (b ++ X) := own4.kept g35 (by cases v4'.ownBlock <;> simp)
  have od : OwnT w5 wr.heap.size vd (slotL s q d) := ownd.kept g35 (by cases vd.ownBlock <;> simp)
  have lt4 : ∀ g, v4'.ownBlock = some g → w.heap.size + 1 ≤ g ∧ g < w3.heap.size := own4.lt
  have ltd : ∀ g, vd.ownBlock = some g → wr.heap.size ≤ g ∧ g < w1.heap.size := (hl.own d vd hvd).lt
  have lt6 : ∀ g, v6'.ownBlock = some g → w3.heap.size ≤ g := fun g hg => (own6.lt g hg).1
  have o6' : OwnT (w5.setCells w.heap.size 0 nils) w3.heap.size v6' (Y ++ a) := own6.kept hc.2 (.inr fun e => by have := lt6 _ e; omega)
  have od' : OwnT (w5.setCells w.heap.size 0 nils) wr.heap.size vd (slotL s q d) := od.kept hc.2 (.inr fun e => by have := (ltd _ e).1; omega)
  obtain ⟨A, c, hvA, _, _, hA⟩ := od'.form
  refine ⟨⟨by rw [hX, hY]; exact split_step h.math hs hdt hd, o4.kept hc.2 (.inr fun e => by have := (lt4 _ e).1; omega), ⟨A, c, by rw [hvA, flatT_length], ?_, fun hn => ?_, fun b o e _ => ?_⟩, fun _ => od'.base (by omega), o6'.base (by omega), ?_, ?_, ?_, hc.1, ?_⟩, r5⟩
  · rw [hvA] at od'; exact od'.sl (by decide)
  · rcases hA with ⟨_, _, h0⟩ | ⟨g, h1, _⟩
    · exact h0
    · rw [hn] at h1; cases h1
  · have := (ltd b (by rw [hvA, e]; rfl)).1; omega
  · cases hx : v4'.ownBlock with
    | none => exact .inl rfl
    | some g =>
      refine .inr fun e => ?_
      have e1 := ltd g e.symm
      rcases hor with h1 | h1
      · have := (h.o4.lt g (by rw [← h1, hx])).2; omega
      · rw [hx] at h1
        have := Option.some.inj h1; omega
  · cases hx : v4'.ownBlock with
    | none => exact .inl rfl
    | some g => exact .inr fun e => by have := (lt4 g hx).2; have := lt6 g e.symm; omega
  · cases hx : vd.ownBlock with
    | none => exact .inl rfl
    | some g => exact .inr fun e => by have := (ltd g hx).2; have := lt6 g e.symm; omega
  · have b1 : Below w.heap.size w w1 := h.bel.grown hl.gr h.bel.size (fun k hk => by have : w.heap.size = k := Option.some.inj hk; omega)
    have b2 : Below w.heap.size w w2 := b1.trans (hb.mono b1.size)
    have b3 : Below w.heap.size w w3 := b2.grown hg b2.size (fun k hk => by have := (h.o4.lt k hk).1; omega)
    have b5 : Below w.heap.size w w5 := b3.grown g35 b3.size (fun k hk => by cases hk)
    exact b5.grown hc.2 b5.size (fun k hk => by have : w.heap.size = k := Option.some.inj hk; omega)

/-- What split hands back. -/
def RetS (w : World) (l : List T) (t : Int) (e : Ending) (w' : World) : Prop :=
  ∃ b s a A1 c1 A2 c2 A3 c3, e = .returned (.tuple #[.slice A1 b.length c1, .slice A2 s.length c2, .slice A3 a.length c3]) ∧ SplitE l t b s a ∧
    OwnT w' w.heap.size (.slice A1 b.length c1) b ∧ OwnT w' w.heap.size (.slice A2 s.length c2) s ∧ OwnT w' w.heap.size (.slice A3 a.length c3) a ∧
    ((Value.slice A1 b.length c1).ownBlock = none ∨ (Value.slice A1 b.length c1).ownBlock ≠ (Value.slice A2 s.length c2).ownBlock) ∧
    ((Value.slice A1 b.length c1).ownBlock = none ∨ (Value.slice A1 b.length c1).ownBlock ≠ (Value.slice A3 a.length c3).ownBlock) ∧
    ((Value.slice A2 s.length c2).ownBlock = none ∨ (Value.slice A2 s.length c2).ownBlock ≠ (Value.slice A3 a.length c3).ownBlock) ∧
    Below w.heap.size w w'
theorem own_form {w : World} {B : Nat} {v : Value} {l : List T} (h : OwnT w B v l) : ∃ A c, v = .slice A l.length c ∧ (A = none → c = 0) := by
  obtain ⟨A, c, hv, _, _, hA⟩ := h.form
  rw [flatT_length] at hv
  refine ⟨A, c, hv, fun hn => ?_⟩
  rcases hA with ⟨_, _, h0⟩ | ⟨g, h1, _⟩
  · exact h0
  · rw [hn] at h1; cases h1
theorem retS {w wr : World} {l b s a : List T} {t : Int} {v4 v5 v6 : Value} (h : SpI w l t 0 v4 v5 v6 b s a wr) : RetS w l t (.returned (.tuple #[v4, v5, v6])) wr := by
  obtain ⟨A1, c1, rfl, _⟩ := own_form h.o4
  obtain ⟨A2, c2, rfl, _⟩ := own_form (h.o5 (by decide))
  obtain ⟨A3, c3, rfl, _⟩ := own_form h.o6
  exact ⟨b, s, a, A1, c1, A2, c2, A3, c3, rfl, split_end h.math, h.o4.base (by omega), (h.o5 (by decide)).base (by omega), h.o6.base (by omega), h.d45, h.d46, h.d56, h.bel⟩
theorem sp_start {w : World} {l : List T} {t : Int} {A : Option Addr} {cap : Nat} {o : Obj} {T0 : TypeId} (ho : o = .cells nils.toArray 54) (h : SlT w A l) (hA : A = none → cap = 0) (ht : timeB t = true) (hl : ∀ x ∈ l, timeB x.due = true) :
    SpI w l t 7 (.slice none 0 0) (.slice A l.length cap) (.slice none 0 0) [] l [] (w.alloc o) := by
  refine ⟨split_start l t ht hl, Own.nil _ _ _ _, ⟨A, cap, rfl, Sl.alloc h o, hA, fun b o e hne => ?_⟩, fun h => by omega, Own.nil _ _ _ _, .inl rfl, .inl rfl, ?_, ?_, (Below.refl _ _).alloc (Nat.le_refl _) _⟩
  · obtain ⟨b', o', e', hlt, _⟩ := h (by simpa using hne)
    rw [e] at e'
    obtain ⟨rfl, rfl⟩ : b = b' ∧ o = o' := by simpa using e'
    omega
  · cases A with
    | none => exact .inl rfl
    | some a => exact .inr fun e => by cases e
  · rw [ho]
    have := World.ownsRow_lit (base := w.heap.size) (e := 54) (size := 1) w nils.toArray 64 (Nat.le_refl _) (by unfold maxLen; omega) (by simp [nils])
    simpa using this

theorem slice_from (sb d : Nat) (hd : d < 64) : ∃ A c, (∀ w, (Instr.sliceAt 54 (.pointer (some ⟨sb, 0, none⟩)) (some (.int .i64 ((d : Int) + 1))) none none).run Try.prog w = .ok (.slice A (63 - d) c) w) ∧ (d < 63 → A = some ⟨sb, d + 1, none⟩) := by
  refine ⟨some (if 64 = d + 1 then ⟨sb, 0, none⟩ else (⟨sb, 0, none⟩ : Addr).add ((d + 1) * 1)), 64 - (d + 1), fun w => ?_, fun h => ?_⟩
  · have ht : Try.prog.underlying 54 = some (.array (Try.prog.arrayLen 54) (Try.prog.elem 54)) := by kernel_rfl
    have hn : Try.prog.arrayLen 54 = 64 := by kernel_rfl
    have hz : ∀ w, (Go.sizeOf (Try.prog.elem 54)).run Try.prog w = .ok 1 w := fun w => by kernel_rfl
    have hr := run_sliceAt_array_l (P := Try.prog) w 54 ⟨sb, 0, none⟩ ht .i64 ((d : Int) + 1) (by omega) (by rw [hn]; omega)
    rw [hr, hz, hn]
    have e : ((d : Int) + 1).toNat = d + 1 := by omega
    simp only [Result.andThen_ok, slicedAt, e]
    have e2 : 64 - (d + 1) = 63 - d := by omega
    rw [e2]
  · rw [if_neg (by omega)]
    unfold Addr.add
    rw [if_neg (by omega)]
    simp

theorem slots_obj : #[.slice none 0 0, .slice none 0 0, .slice none 0 0, .slice none 0 0, .slice none 0 0, .slice none 0 0, .slice none 0 0, .slice none 0 0, .slice none 0 0, .slice none 0 0, .slice none 0 0, .slice none 0 0, .slice none 0 0, .slice none 0 0, .slice none 0 0, .slice none 0 0, .slice none 0 0, .slice none 0 0, .slice none 0 0, .slice none 0 0, .slice none 0 0, .slice none 0 0, .slice none 0 0, .slice none 0 0, .slice none 0 0, .slice none 0 0, .slice none 0 0, .slice none 0 0, .slice none 0 0, .slice none 0 0, .slice none 0 0, .slice none 0 0, .slice none 0 0, .slice none 0 0, .slice none 0 0, .slice none 0 0, .slice none 0 0, .slice none 0 0, .slice none 0 0, .slice none 0 0, .slice none 0 0, .slice none 0 0, .slice none 0 0, .slice none 0 0, .slice none 0 0, .slice none 0 0, .slice none 0 0, .slice none 0 0, .slice none 0 0, .slice none 0 0, .slice none 0 0, .slice none 0 0, .slice none 0 0, .slice none 0 0, .slice none 0 0, .slice none 0 0, .slice none 0 0, .slice none 0 0, .slice none 0 0, .slice none 0 0, .slice none 0 0, .slice none 0 0, .slice none 0 0, .slice none 0 0] = nils.toArray := by kernel_rfl

set_option maxHeartbeats 8000000 in
theorem split_any (A : Option Addr) (cap : Nat) (l : List T) (t : Int) (w : World) (hl : l.length ≤ 100) (h : SlT w A l) (hA : A = none → cap = 0) (ht : timeB t = true) (hok : ∀ x ∈ l, timeB x.due = true) (hs : SortedT l) :
    Calls Try.prog 23 #[.slice A l.length cap, .int .i64 t] w (RetS w l t) := by
  have ht0 : 0 ≤ t := by unfold timeB at ht; simp at ht; exact ht.1
  have ht1 : t ≤ 1099511627776 := by unfold timeB at ht; simp at ht; exact ht.2
  have HS := Lib.hid (sp_start (T0 := 0) (cap := cap) (o := .cells nils.toArray 54) rfl h hA ht hok)
  have HK := Lib.hid hok
  have HO := Lib.hid hs
  clear h hA ht hok hs
  go_enter Try.func23, Try.ntmps23
  go_wp2_with fail
  rw [slots_obj]
  generalize hW : w.alloc (.cells nils.toArray 54) = W at *
  clear hW
  go_loopw [8, 4, 5, 6] (fun pl v4 v5 v6 wr => ∃ p b s a, p ≤ 7 ∧ pl = .int .i64 (plc p) ∧ SpI w l t p v4 v5 v6 b s a wr) (fun pl _ _ _ _ => (intOf pl + 1).toNat)
  case atStart => exact ⟨7, _, _, _, by omega, rfl, HS.out⟩
  case round =>
    obtain ⟨p, b, s, a, hp, rfl, hI⟩ := hrel
    match p, hp with
    | 0, _ =>
      replace hI := Lib.hid hI
      rw [show plc 0 = -1 from rfl]
      go_wp2_with fail
      go_ret3
      exact retS hI.out
    | q + 1, hq =>
      rw [show plc (q + 1) = (q : Int) from rfl]
      have hq6 : q ≤ 6 := by omega
      obtain ⟨A5, c5, rfl, hs5, hA5, hAn⟩ := hI.s5
      obtain ⟨A6, c6, rfl, hA6⟩ := own_form hI.o6
      have hmem := fun x hx => HK.out x (split_mem hI.math x hx)
      have hlen := split_len hI.math
      have hdg := split_dig hI.math HO.out
      have hsb : w.heap.size < wr.heap.size := (hI.row.lt w.heap.size rfl).2
      obtain ⟨d, hd, hd64⟩ : ∃ d : Nat, dig t q = (d : Int) ∧ d < 64 := ⟨(dig t q).toNat, by unfold dig; omega, by unfold dig; omega⟩
      have hsn := slots_len s q d hd64 hdg
      have hrow := Lib.hid (show OwnS wr w.heap.size (List.replicate 64 (.slice none 0 0)) from hI.row)
      have hs100 : s.length ≤ 1000 := by omega
      have hX100 : ((slotsL s q).take d).flatten.length ≤ 1000 := by omega
      have hY100 : ((slotsL s q).drop (d + 1)).flatten.length ≤ 1000 := by omega
      have hXb : b.length + ((slotsL s q).take d).flatten.length ≤ 1000 := by omega
      have hYa : ((slotsL s q).drop (d + 1)).flatten.length + a.length ≤ 1000 := by omega
      obtain ⟨LX, hLXe⟩ : ∃ LX, LX = (slotsL s q).take d := ⟨_, rfl⟩
      obtain ⟨LY, hLYe⟩ : ∃ LY, LY = (slotsL s q).drop (d + 1) := ⟨_, rfl⟩
      rw [← hLXe] at hX100 hXb
      rw [← hLYe] at hY100 hYa
      have hLX : d = LX.length := by rw [hLXe, List.length_take, slotsL_length]; omega
      have hLY : 63 - d = LY.length := by rw [hLYe, List.length_drop, slotsL_length]; omega
      have hLX1 : LX.length ≤ 1000 := by omega
      have hLY1 : LY.length ≤ 1000 := by omega
      obtain ⟨X, hXe⟩ : ∃ X, X = LX.flatten := ⟨_, rfl⟩
      obtain ⟨Y, hYe⟩ : ∃ Y, Y = LY.flatten := ⟨_, rfl⟩
      rw [← hXe] at hX100 hXb
      rw [← hYe] at hY100 hYa
      replace hXe := Lib.hid hXe
      replace hYe := Lib.hid hYe
      replace hLX1 := Lib.hid hLX1
      replace hLY1 := Lib.hid hLY1
      replace hI := Lib.hid hI
      replace hs5 := Lib.hid hs5
      replace hA5 := Lib.hid hA5
      replace hAn := Lib.hid hAn
      replace hA6 := Lib.hid hA6
      replace hmem := Lib.hid hmem
      replace hlen := Lib.hid hlen
      replace hsn := Lib.hid hsn
      replace hd := Lib.hid hd
      replace hdg := Lib.hid hdg
      replace hLX := Lib.hid hLX
      replace hLY := Lib.hid hLY
      replace hLXe := Lib.hid hLXe
      replace hLYe := Lib.hid hLYe
      replace hX100 := Lib.hid hX100
      replace hY100 := Lib.hid hY100
      replace hXb := Lib.hid hXb
      replace hYa := Lib.hid hYa
      go_wp2_with fail
      go_at_call 30
      (with_reducible refine (lay_any A5 c5 w.heap.size q s _ hq6 hs100 hs5.out hAn.out hsb hmem.out hrow.out).mono ?_)
      rintro e w1 ⟨rfl, vs, hL⟩
      obtain ⟨vd, hvd⟩ : ∃ vd, vs[d]? = some vd := ⟨_, List.getElem?_eq_getElem (by have : vs.length = 64 := hL.row.1; omega)⟩
      have hone := Lib.hid (sp_one hI.out hL hd64)
      rw [← hLXe.out] at hone
      have hs1 : w.heap.size + 1 ≤ w1.heap.size := Nat.le_trans hsb hL.gr.size
      replace hL := Lib.hid hL
      obtain ⟨Ad, cd, hvdf, _⟩ := own_form (hL.out.own d vd hvd)
      replace hvdf := Lib.hid hvdf
      replace hvd := Lib.hid hvd
      go_wp2_with fail
      go_at_call 31
      (with_reducible refine (digit_any t q hq6 ht0 ht1 _).mono ?_)
      rintro e w1' ⟨rfl, rfl⟩
      rw [hd.out]
      have hdi : (d : Int) < 64 := by omega
      have hdi2 : (d : Int) ≤ 64 := by omega
      go_wp2_with fail
      go_at_call 26
      (with_reducible refine (concat_is _ 64 d LX X _ hLX.out hXe.out hLX1.out hX100.out hone.out.1).mono ?_)
      rintro e w2 ⟨A1, c1, rfl, own1, hA1, hb1⟩
      have hs2 : w.heap.size + 1 ≤ w2.heap.size := Nat.le_trans hs1 hb1.size
      have own42 := Lib.hid (hone.out.2.1.below hb1)
      have hsl1 := Lib.hid (own1.sl (by decide))
      have hn1 : Hid ((b.map T.cells).length + (X.map T.cells).length ≤ 1000000) := Lib.hid (by rw [flatT_length, flatT_length]; have := hXb.out; omega)
      have hB2 := Lib.hid hs2
      replace hA1 := Lib.hid hA1
      replace own1 := Lib.hid own1
      obtain ⟨A10, c10, hsa, hA10⟩ := slice_from w.heap.size d hd64
      replace hA10 := Lib.hid hA10
      clear own1
      go_wp2_with (at_builtin; (refine wpList_append_sl rfl (.tmp 21) (.tmp 24) 22 rfl elT (by rfl) own42.out (by rfl) (flatT_length X).symm hsl1.out (whole X) hA1.out hn1.out hB2.out ?_); intro v4' w3 own4 grow4 hor4; have two := Lib.hid (sp_two hI.out hL.out hd64 hvd.out hb1 grow4); have kc := two.out.2.2.1; rw [hvdf.out] at kc; replace own4 := Lib.hid own4; replace hor4 := Lib.hid hor4)
      have hslY := Lib.hid (show SlLT w3 A10 LY from fun hn => by
        have hd63 : d < 63 := by
          have hne : LY.length ≠ 0 := fun h0 => hn (by rw [List.length_eq_zero_iff.1 h0]; rfl)
          have := hLY.out; omega
        rw [hA10.out hd63, hLYe.out]
        rw [hLYe.out] at hn
        exact two.out.1 hn)
      go_at_call 26
      (with_reducible refine (concat_is A10 c10 (63 - d) LY Y _ hLY.out hYe.out hLY1.out hY100.out hslY.out).mono ?_)
      rintro e w4 ⟨AY, cY, rfl, ownY, hAY, hb4⟩
      clear kc hsa
      have own6 := Lib.hid ((two.out.2.2.2.1.below hb4).sl (by decide))
      have hn2 : Hid ((Y.map T.cells).length + (a.map T.cells).length ≤ 1000000) := Lib.hid (by rw [flatT_length, flatT_length]; have := hYa.out; omega)
      have hB4 := Lib.hid hb4.size
      replace ownY := Lib.hid ownY
      replace hAY := Lib.hid hAY
      replace hb4 := Lib.hid hb4
      go_wp2_with (at_builtin; (refine wpList_append_sl rfl (.tmp 32) (.tmp 33) 22 rfl elT (by rfl) ownY.out (by rfl) (flatT_length a).symm own6.out (whole a) hA6.out hn2.out hB4.out ?_); intro v6' w5 own6' grow6 hor6; replace own6' := Lib.hid own6'; replace grow6 := Lib.hid grow6)
      have hXq : X = ((slotsL s q).take d).flatten := by rw [← hLXe.out]; exact hXe.out
      have hYq : Y = ((slotsL s q).drop (d + 1)).flatten := by rw [← hLYe.out]; exact hYe.out
      obtain ⟨step, rowC⟩ := sp_step hI.out (by omega) hL.out hd64 hvd.out hb1 hXq hYq HO.out hd.out (by have hh := own4.out; rw [← List.map_append] at hh; exact hh) grow4 hor4.out ownY.out hb4.out (by have hh := own6'.out; rw [← List.map_append] at hh; exact hh) grow6.out
      have kcl : (Builtin.clear_ #[57] 0 #[.slice (some ⟨w.heap.size, 0, none⟩) 64 64]).run Try.prog w5 = .ok (.tuple #[]) (w5.setCells w.heap.size 0 nils) := run_clear rowC 0
      rw [hvdf.out] at step
      replace step := Lib.hid step
      clear rowC hXq hYq
      rw [kcl]
      clear kcl
      go_simp
      go_wp2_with fail
      go_roundw
      case rel => exact ⟨q, _, _, _, by omega, plc_down q, step.out⟩
      case measure => simp [intOf]
end Go.Proofs.Ytdieoecpacplmaa.WheelP
