/-
  Tables of the call's own; fdb.copyOf.
-/
import Derived.Test.YtnghilcjecjljaaFdbE
namespace Go.Proofs.Ytnghilcjecjljaa.MacP
open Go.RowKit
set_option linter.unusedVariables false
section
variable {P : Program} {Q : Exit → Act → World → Prop}
theorem wp_region_tail2 {id : Nat} {l : List Oper} {a0 : Act} {w0 : World} (hm : P.follows .mixedOrders = true) (d : Nat → Nat) (m S : Nat) (hmS : m < S) (hS : l.length = S + 1)
    (hp : litB l.toArray d S a0.tmps.size = true) (ho : orderB l.toArray = true) (hc : closedB l.toArray S = true)
    (R : World → Prop) (M : World → World → Prop) (hR0 : ∀ w, Below w0.heap.size w0 w → R w) (hRB : ∀ w w', R w → Below w.heap.size w w' → R w') (hRM : ∀ w w', Below w0.heap.size w0 w → M w w' → R w')
    (lk : Nat → Value → Prop) (spm : Value → World → Prop) (monoS : ∀ v w w', spm v w → Below w.heap.size w w' → spm v w')
    (hop : TailOk P Q R M l.toArray d (fun i v w => lk i v ∧ (i = m → spm v w)) m S a0 w0 l 0) : (Code.region id l.toArray true).wp P Q a0 w0 :=
  wp_region_tail hm d m S hmS hS hp ho hc R M hR0 hRB hRM (fun i v w => lk i v ∧ (i = m → spm v w)) (fun i v w w' h hb => ⟨h.1, fun e => monoS _ _ _ (h.2 e) hb⟩) (fun i v w w' hi h _ _ => ⟨h.1, fun e => absurd e hi⟩) hop
end
end Go.Proofs.Ytnghilcjecjljaa.MacP
namespace Go.Proofs.Ytnghilcjecjljaa.FdbP
open Go.RowKit Go.Sort Go.Proofs.Ytnghilcjecjljaa.SliceP Go.Proofs.Ytnghilcjecjljaa.MacP
set_option linter.unusedVariables false
set_option maxRecDepth 100000

/-- A bucket of the call's own: its block, all that is in it, and how many are the bucket's. -/
structure PB where
  blk : Nat
  ys : List E
  n : Nat
def PB.v (p : PB) : Value := .slice (some ⟨p.blk, 0, none⟩) p.n p.ys.length
def PB.row (p : PB) : List E := p.ys.take p.n
structure PB.ok (w : World) (B g : Nat) (p : PB) : Prop where
  ge : B ≤ p.blk
  ne : p.blk ≠ g
  le : p.n ≤ p.ys.length
  blk : BlkE w p.blk p.ys
  sm : p.ys.length ≤ 1000000
structure OT (w : World) (B g : Nat) (ps : List PB) (tl : List Value) : Prop where
  ge : B ≤ g
  outer : Bx w g 55 (ps.map PB.v ++ tl).toArray
  nd : (ps.map PB.blk).Nodup
  each : ∀ p ∈ ps, p.ok w B g
theorem elS : ElemT Try.prog 22 55 1 := ElemT.mk' (z := .slice none 0 0) (bytes := 24) Try.underlying22 (by kernel_rfl) (by decide) rfl (by decide)
theorem zvS : ∀ w, (zeroValue 55).run Try.prog w = .ok (.slice none 0 0) w := fun _ => by kernel_rfl
theorem PB.ok.below {w w' : World} {B g : Nat} {p : PB} (h : p.ok w B g) (hb : Below w.heap.size w w') : p.ok w' B g := ⟨h.ge, h.ne, h.le, Blk.below h.blk hb, h.sm⟩
theorem PB.ok.grown {w w' : World} {B g : Nat} {p : PB} {row : Option Nat} (h : p.ok w B g) (hb : w.grownBy w' row) (hne : some p.blk ≠ row) : p.ok w' B g := ⟨h.ge, h.ne, h.le, Blk.grown h.blk hb hne, h.sm⟩
theorem OT.below {w w' : World} {B g : Nat} {ps : List PB} {tl : List Value} (h : OT w B g ps tl) (hb : Below w.heap.size w w') : OT w' B g ps tl := ⟨h.ge, h.outer.below hb, h.nd, fun p hp => (h.each p hp).below hb⟩
theorem OT.base {w : World} {B B' g : Nat} {ps : List PB} {tl : List Value} (h : OT w B g ps tl) (hb : B' ≤ B) : OT w B' g ps tl := ⟨Nat.le_trans hb h.ge, h.outer, h.nd, fun p hp => ⟨Nat.le_trans hb (h.each p hp).ge, (h.each p hp).ne, (h.each p hp).le, (h.each p hp).blk, (h.each p hp).sm⟩⟩
theorem OT.tab {w : World} {B g : Nat} {ps : List PB} {bs : List (List E)} (h : OT w B g ps []) (hb : ps.map PB.row = bs) {n : Nat} (hn : n = bs.length) : TabS w (some ⟨g, 0, none⟩) n n bs := by
  subst hn
  refine ⟨rfl, Nat.le_refl _, (fun e => by cases e), fun k xs hk => ?_⟩
  rw [← hb, List.getElem?_map] at hk
  obtain ⟨p, hp, rfl⟩ := Option.map_eq_some_iff.1 hk
  have ho := h.each p (List.mem_of_getElem? hp)
  refine ⟨g, 0, some ⟨p.blk, 0, none⟩, p.n, p.ys.length, rfl, h.outer.lt, ?_, BlkE.row ho.blk p.n ho.le⟩
  refine h.outer.c ?_
  rw [List.getElem?_toArray, List.append_nil, List.getElem?_map, Nat.zero_add, hp]; rfl
theorem OT.outer_at {w : World} {B g : Nat} {ps : List PB} {tl : List Value} (h : OT w B g ps tl) {k : Nat} {p : PB} (hk : ps[k]? = some p) : w.cell? ⟨g, k, none⟩ = some p.v := by
  refine h.outer.c ?_
  have hl := (List.getElem?_eq_some_iff.1 hk).1
  rw [List.getElem?_toArray, List.getElem?_append_left (by simpa using hl), List.getElem?_map, hk]; rfl
theorem OT.outer_tl {w : World} {B g : Nat} {ps : List PB} {tl : List Value} (h : OT w B g ps tl) {v : Value} (hk : tl[0]? = some v) : w.cell? ⟨g, ps.length, none⟩ = some v := by
  refine h.outer.c ?_
  rw [List.getElem?_toArray, List.getElem?_append_right (by simp)]; simpa using hk
theorem OT.blk_lt {w : World} {B g : Nat} {ps : List PB} {tl : List Value} (h : OT w B g ps tl) {p : PB} (hp : p ∈ ps) : p.blk < w.heap.size := (h.each p hp).blk.lt
/-- A bucket behind all others. -/
theorem OT.snoc {w w' w2 : World} {B g h : Nat} {ps : List PB} {v : Value} {tl : List Value} {ys : List E} (H : OT w B g ps (v :: tl)) (hsm : ys.length ≤ 1000000) (hB : B ≤ w.heap.size) (hh : h = w.heap.size) (hg : w.grownBy w' none) (hw2 : w2 = w'.setCell ⟨g, ps.length, none⟩ (.slice (some ⟨h, 0, none⟩) ys.length ys.length))
    {w3 : World} (h3 : BlkE w3 h ys) (hg3 : w2.grownBy w3 (some h)) : OT w3 B g (ps ++ [(⟨h, ys, ys.length⟩ : PB)]) tl := by
  have hgl := H.outer.lt
  have hgh : g ≠ h := by omega
  have o1 : Bx w' g _ _ := H.outer.grown hg (by simp)
  have hl : ps.length < (ps.map PB.v ++ v :: tl).length := by simp
  refine ⟨H.ge, ?_, ?_, ?_⟩
  · have o2 := o1.set ps.length (.slice (some ⟨h, 0, none⟩) ys.length ys.length)
    rw [← hw2] at o2
    have o3 := o2.grown hg3 (by simpa using hgh)
    have e : ((ps.map PB.v ++ v :: tl).toArray.setIfInBounds ps.length (.slice (some ⟨h, 0, none⟩) ys.length ys.length)) = ((ps ++ [(⟨h, ys, ys.length⟩ : PB)]).map PB.v ++ tl).toArray := by
      rw [List.setIfInBounds_toArray, List.set_append_right _ _ (by simp)]
      simp [PB.v]
    rw [e] at o3; exact o3
  · rw [List.map_append, List.nodup_append]
    refine ⟨H.nd, by simp, fun a ha b hb => ?_⟩
    obtain ⟨p, hp, rfl⟩ := List.mem_map.1 ha
    have := H.blk_lt hp
    simp at hb
    omega
  · intro p hp
    rcases List.mem_append.1 hp with hp | hp
    · have hlt := H.blk_lt hp
      have a1 := (H.each p hp).grown hg (by simp)
      have a2 : p.ok w2 B g := a1.grown (row := some g) (by rw [hw2]; exact setCell_grown _ _ _ _) (by have := a1.ne; simpa using this)
      exact a2.grown hg3 (by simp; omega)
    · simp at hp
      subst hp
      exact ⟨by show B ≤ h; omega, fun e => hgh e.symm, Nat.le_refl _, h3, hsm⟩

abbrev TT : TypeId := 24
abbrev ET : TypeId := 57
abbrev ST : TypeId := 55
/-- From block B on all is as it was, but boxes of tables. -/
def Hi (B : Nat) (w w' : World) : Prop := w.heap.size ≤ w'.heap.size ∧ ∀ b cs T fr, B ≤ b → w.heap[b]? = some (.cells cs T fr) → T ≠ TT → w'.heap[b]? = some (.cells cs T fr)
theorem Hi.refl (B : Nat) (w : World) : Hi B w w := ⟨Nat.le_refl _, fun _ _ _ _ _ h _ => h⟩
theorem Hi.trans {B : Nat} {a b c : World} (h : Hi B a b) (k : Hi B b c) : Hi B a c := ⟨Nat.le_trans h.1 k.1, fun d cs T fr h1 h2 h3 => k.2 d cs T fr h1 (h.2 d cs T fr h1 h2 h3) h3⟩
theorem Hi.weak {B B' : Nat} {a b : World} (h : Hi B a b) (hb : B ≤ B') : Hi B' a b := ⟨h.1, fun d cs T fr h1 h2 h3 => h.2 d cs T fr (Nat.le_trans hb h1) h2 h3⟩
theorem Hi.below {B : Nat} {a b : World} (h : Below a.heap.size a b) : Hi B a b := ⟨h.size, fun d cs T fr _ h2 _ => (h.block d (Array.getElem?_eq_some_iff.1 h2).1).trans h2⟩
theorem Hi.set {B b : Nat} (w : World) (h : b < B) (i : Nat) (v : Value) : Hi B w (w.setCell ⟨b, i, none⟩ v) :=
  ⟨by simp, fun c cs T fr hc h2 _ => (heap_setCell_other _ _ c _ (show c ≠ b by omega)).trans h2⟩
theorem Hi.box {B b : Nat} {w : World} {u : Array Value} (h : Bx w b TT u) (i : Nat) (v : Value) : Hi B w (w.setCell ⟨b, i, none⟩ v) :=
  ⟨by simp, fun c cs T fr hc h2 h3 => (heap_setCell_other _ _ c _ (show c ≠ b from fun e => by
    subst e
    have := h.symm.trans h2
    simp only [Option.some.injEq, Obj.cells.injEq] at this
    exact h3 this.2.1.symm)).trans h2⟩
theorem Hi.three {B b : Nat} (w : World) (h : b < B) (v0 v1 v2 : Value) : Hi B w (((w.setCell ⟨b, 0, none⟩ v0).setCell ⟨b, 1, none⟩ v1).setCell ⟨b, 2, none⟩ v2) :=
  ((Hi.set w h 0 v0).trans (Hi.set _ h 1 v1)).trans (Hi.set _ h 2 v2)
theorem Hi.box3 {B b : Nat} {w : World} {u : Array Value} (h : Bx w b TT u) (v0 v1 v2 : Value) : Hi B w (((w.setCell ⟨b, 0, none⟩ v0).setCell ⟨b, 1, none⟩ v1).setCell ⟨b, 2, none⟩ v2) :=
  ((Hi.box h 0 v0).trans (Hi.box (h.set 0 v0) 1 v1)).trans (Hi.box ((h.set 0 v0).set 1 v1) 2 v2)
theorem Hi.cell {B b o : Nat} {w w' : World} {cs : Array Value} {T : TypeId} {fr : Nat × Nat} (h : Hi B w w') (hb : B ≤ b) (hc : w.heap[b]? = some (.cells cs T fr)) (hT : T ≠ TT) : w'.cell? ⟨b, o, none⟩ = w.cell? ⟨b, o, none⟩ :=
  World.cell?_of_block (a := ⟨b, _, none⟩) ((h.2 b cs T fr hb hc hT).trans hc.symm)
theorem RowE.hi {B : Nat} {w w' : World} {A : Option Addr} {n c : Nat} {l : List E} (h : RowE w A n c l) (hb : ∀ b o, A = some ⟨b, o, none⟩ → B ≤ b ∧ ∃ cs, w.heap[b]? = some (.cells cs ET (0, 0))) (hh : Hi B w w') : RowE w' A n c l :=
  ⟨h.len, fun hn => by
    obtain ⟨b, o, e, hlt, hx⟩ := h.sl hn
    obtain ⟨h1, cs, h2⟩ := hb b o e
    exact ⟨b, o, e, Nat.lt_of_lt_of_le hlt hh.1, fun k cs hk j v hj => (hh.cell h1 h2 (by decide)).trans (hx k cs hk j v hj)⟩, h.cap, h.nil⟩
theorem Blk.hi {B g : Nat} {w w' : World} {e : TypeId} {xs : List (List Value)} (h : Blk w g e xs) (he : e ≠ TT) (hb : B ≤ g) (hh : Hi B w w') : Blk w' g e xs := hh.2 g _ _ _ hb h he
theorem OT.hi {B g : Nat} {w w' : World} {ps : List PB} {tl : List Value} (h : OT w B g ps tl) (hh : Hi B w w') : OT w' B g ps tl :=
  ⟨h.ge, hh.2 g _ _ _ h.ge h.outer (by decide), h.nd, fun p hp => ⟨(h.each p hp).ge, (h.each p hp).ne, (h.each p hp).le, Blk.hi (h.each p hp).blk (by decide) (h.each p hp).ge hh, (h.each p hp).sm⟩⟩
/-- A table that reads so whatever becomes of the blocks below B. -/
def TabH (B : Nat) (w : World) (A : Option Addr) (n c : Nat) (bs : List (List E)) : Prop := ∀ w', Hi B w w' → TabS w' A n c bs
theorem TabH.tab {B : Nat} {w : World} {A : Option Addr} {n c : Nat} {bs : List (List E)} (h : TabH B w A n c bs) : TabS w A n c bs := h w (Hi.refl _ _)
theorem TabH.hi {B : Nat} {w w' : World} {A : Option Addr} {n c : Nat} {bs : List (List E)} (h : TabH B w A n c bs) (hh : Hi B w w') : TabH B w' A n c bs := fun w'' h' => h w'' (hh.trans h')
theorem TabH.below {B : Nat} {w w' : World} {A : Option Addr} {n c : Nat} {bs : List (List E)} (h : TabH B w A n c bs) (hb : Below w.heap.size w w') : TabH B w' A n c bs := h.hi (Hi.below hb)
theorem TabH.base {B B' : Nat} {w : World} {A : Option Addr} {n c : Nat} {bs : List (List E)} (h : TabH B w A n c bs) (hb : B' ≤ B) : TabH B' w A n c bs := fun w' h' => h w' (h'.weak hb)
theorem OT.tabH {w : World} {B B' g : Nat} {ps : List PB} {bs : List (List E)} (h : OT w B g ps []) (hb : B' ≤ B) (hr : ps.map PB.row = bs) {n : Nat} (hn : n = bs.length) : TabH B' w (some ⟨g, 0, none⟩) n n bs := fun w' h' => (h.hi (h'.weak hb)).tab hr hn

theorem OT.setLow {w : World} {B g b : Nat} {ps : List PB} {tl : List Value} (h : OT w B g ps tl) (hb : b < B) (i : Nat) (v : Value) : OT (w.setCell ⟨b, i, none⟩ v) B g ps tl :=
  ⟨h.ge, h.outer.other (by have := h.ge; omega) i v, h.nd, fun p hp => (h.each p hp).grown (setCell_grown _ _ _ _) (by have := (h.each p hp).ge; simp; omega)⟩
def CopyR (w : World) (s ag : Int) (bs : List (List E)) (e : Ending) (w' : World) : Prop :=
  ∃ g ps, e = .returned (tbv (.slice (some ⟨g, 0, none⟩) bs.length bs.length) s ag) ∧ OT w' w.heap.size g ps [] ∧ ps.map PB.row = bs ∧ (∀ p ∈ ps, p.n = p.ys.length) ∧ Below w.heap.size w w'
structure CopyI (w : World) (B g : Nat) (bs : List (List E)) (k : Nat) (wr : World) : Prop where
  bel : Below w.heap.size w wr
  ot : ∃ ps, OT wr B g ps (List.replicate (bs.length - k) (.slice none 0 0)) ∧ ps.map PB.row = bs.take k ∧ (∀ p ∈ ps, p.n = p.ys.length)
theorem CopyI.outer {w wr : World} {B g k : Nat} {bs : List (List E)} (H : CopyI w B g bs k wr) (hk : k < bs.length) : wr.cell? ⟨g, k, none⟩ = some (.slice none 0 0) ∧ wr.frozen? ⟨g, k, none⟩ = false ∧ g < wr.heap.size := by
  obtain ⟨ps, h1, h2, h3⟩ := H.ot
  have hl : ps.length = k := by have := congrArg List.length h2; rw [List.length_map, List.length_take] at this; omega
  have := h1.outer_tl (v := .slice none 0 0) (by rw [List.getElem?_replicate, if_pos (by omega)])
  rw [hl] at this
  exact ⟨this, h1.outer.f k, h1.outer.lt⟩
theorem CopyI.step {w wr w1 w2 w3 : World} {B g k : Nat} {bs : List (List E)} {xs : List E} (H : CopyI w B g bs k wr) (hsm : xs.length ≤ 1000000) (hB : w.heap.size ≤ B) (hBr : B ≤ wr.heap.size) (hk : bs[k]? = some xs) (hg : Below wr.heap.size wr w1)
    (hw2 : w2 = w1.setCell ⟨g, k, none⟩ (.slice (some ⟨wr.heap.size, 0, none⟩) xs.length xs.length)) (h3 : BlkE w3 wr.heap.size xs) (hg3 : w2.grownBy w3 (some wr.heap.size)) : CopyI w B g bs (k + 1) w3 := by
  obtain ⟨ps, h1, h2, h3'⟩ := H.ot
  have hkl : k < bs.length := (List.getElem?_eq_some_iff.1 hk).1
  have hl : ps.length = k := by have := congrArg List.length h2; rw [List.length_map, List.length_take] at this; omega
  have hr : List.replicate (bs.length - k) (Value.slice none 0 0) = .slice none 0 0 :: List.replicate (bs.length - (k + 1)) (.slice none 0 0) := by
    rw [show bs.length - k = (bs.length - (k + 1)) + 1 by omega, List.replicate_succ]
  rw [hr] at h1
  have hw := H.bel.size
  have hs1 := hg.size
  have hg0 := h1.ge
  have s2 : w2.heap.size = w1.heap.size := by rw [hw2]; simp
  have b2 : Below w.heap.size w w2 := by rw [hw2]; exact (H.bel.trans (hg.mono hw)).setCell (by show w.heap.size ≤ g; omega) _
  refine ⟨b2.trans (grown_below hg3 (fun j hj => by cases hj; omega) (by omega)), ps ++ [⟨wr.heap.size, xs, xs.length⟩], ?_, ?_, ?_⟩
  · exact OT.snoc h1 hsm hBr rfl (below_grown hg) (by rw [hl]; exact hw2) h3 hg3
  · rw [List.map_append, h2, List.take_add_one, hk]; simp [PB.row]
  · intro p hp
    rcases List.mem_append.1 hp with hp | hp
    · exact h3' p hp
    · simp at hp; subst hp; rfl
theorem flatA_ones (n : Nat) (v : Value) : flatA (List.replicate n [v]) = (List.replicate n v).toArray := by
  unfold flatA
  congr 1
  induction n with
  | zero => rfl
  | succ n ih => rw [List.replicate_succ, List.replicate_succ, List.flatten_cons, ih]; rfl
theorem RowE.nil0 {w : World} {n c : Nat} {l : List E} (h : RowE w none n c l) : n = 0 ∧ c = 0 ∧ l = [] := by
  have h1 := h.nil rfl
  have h2 := h.cap
  have h3 := h.len
  exact ⟨by omega, h1, List.length_eq_zero_iff.1 (by omega)⟩
/-- copy(d, s), of a bucket to a new one. -/
theorem run_copy_new {w : World} {h : Nat} {A : Option Addr} {n c : Nat} {l : List E} (hb : BlkE w h (List.replicate n zE)) (hr : RowE w A n c l) (ty : TypeId) :
    ∃ w', (Builtin.copy_ #[55, 55] ty #[.slice (some ⟨h, 0, none⟩) n n, .slice A n c]).run Try.prog w = .ok (goInt n) w' ∧ BlkE w' h l ∧ w.grownBy w' (some h) := by
  cases A with
  | none =>
    obtain ⟨rfl, rfl, rfl⟩ := hr.nil0
    exact ⟨w, run_copy_blk_nil w _ _ ty elE _ 0 0, hb, World.grownBy.refl _ _⟩
  | some a =>
    obtain rfl := hr.len
    have hsrc : ∀ j v, (l.map E.cells).flatten[j]? = some v → w.cell? (a.add j) = some v := by
      by_cases hl : l = []
      · subst hl; intro j v hj; simp at hj
      · obtain ⟨b, o, e, _, _⟩ := hr.sl (by simpa using hl)
        obtain rfl := Option.some.inj e
        exact fun j v hj => Sl.flat_at hr.sl (wholeE l) (by decide) j v hj
    obtain ⟨w', h1, h2, h3, _⟩ := run_copy_blk (P := Try.prog) w 55 55 ty elE 0 l.length l.length a l.length c hb (wholeE _) (wholeE l) (ys := l.map E.cells) (by simp) hsrc (by simp)
    rw [Nat.zero_mul] at h1
    rw [List.length_map] at h1
    refine ⟨w', h1, ?_, h3⟩
    unfold BlkE
    have e : (List.replicate l.length zE).map E.cells = List.replicate l.length zE.cells := List.map_replicate ..
    rw [e] at h2
    simpa using h2
set_option maxHeartbeats 4000000 in
theorem copyOf_any {A : Option Addr} {n c : Nat} {bs : List (List E)} (s ag : Int) {w : World} (ht : TabS w A n c bs) (hl : bs.length ≤ 1000000) (hs : ∀ xs ∈ bs, xs.length ≤ 1000000) :
    Calls Try.prog 37 #[tbv (.slice A n c) s ag] w (CopyR w s ag bs) := by
  obtain rfl := ht.len
  obtain ⟨w0, hw0⟩ : ∃ w0, w0 = (w.alloc (tObj (.slice A bs.length c) s ag)).alloc (tObj (.slice none 0 0) 0 0) := ⟨_, rfl⟩
  have B0 : Below w.heap.size w w0 := by rw [hw0]; exact ((Below.refl _ _).alloc (Nat.le_refl _) _).alloc (by simp) _
  have Y : Bx w0 w.heap.size 24 #[.slice A bs.length c, .int .i64 s, .int .i64 ag] := by rw [hw0]; exact (Bx.new w _ _ rfl).alloc _
  have X : Bx w0 (w.heap.size + 1) 24 #[.slice none 0 0, .int .i64 0, .int .i64 0] := by rw [hw0]; exact Bx.new _ _ _ (by simp)
  have hz0 : w0.heap.size = w.heap.size + 2 := by rw [hw0]; simp
  have y0 := Y.c (i := 0) rfl
  obtain ⟨w1, hmk, hbk, hb1, hs1⟩ := run_make_blk (P := Try.prog) w0 22 elS zvS rfl bs.length hl
  have I0 : CopyI w0 w0.heap.size w0.heap.size bs 0 w1 := ⟨hb1, [], ⟨Nat.le_refl _, by
    have : Blk w1 w0.heap.size 55 (List.replicate bs.length [.slice none 0 0]) := hbk
    unfold Blk at this
    rw [flatA_ones] at this
    exact this, by simp, fun p hp => by cases hp⟩, by simp, fun p hp => by cases hp⟩
  replace I0 := Lib.hid I0
  replace Y := Lib.hid Y
  replace X := Lib.hid X
  have HT := Lib.hid ht
  have hg1 : w.heap.size + 1 < w0.heap.size := by omega
  have hg2 : w0.heap.size < w1.heap.size := by omega
  have hz1 : w.heap.size + 2 ≤ w0.heap.size := by omega
  clear hbk hs1 ht hz0
  replace hs := Lib.hid hs
  go_enter Try.func37, Try.ntmps37
  go_wp2_with fail
  rw [← hw0]
  clear hw0
  rw [hmk]
  clear hmk
  have y1 := (Y.out.below hb1).c (i := 0) rfl
  go_simp
  go_wp2_with fail
  clear y1 y0
  go_loopw [13] (fun i wr => ∃ k : Nat, k ≤ bs.length ∧ i = .int .i64 k ∧ CopyI w0 w0.heap.size w0.heap.size bs k wr) (fun i _ => bs.length - (intOf i).toNat)
  case atStart => exact ⟨0, by omega, rfl, I0.out⟩
  case round =>
    obtain ⟨k, hk, rfl, I⟩ := hrel
    replace I := Lib.hid I
    clear I0
    have Y1 := Lib.hid (Y.out.below I.out.bel)
    have X1 := Lib.hid (X.out.below I.out.bel)
    have Br := B0.trans (I.out.bel.mono B0.size)
    have hzr := I.out.bel.size
    by_cases hlk : k < bs.length
    · obtain ⟨xs, hx⟩ : ∃ x, bs[k]? = some x := ⟨_, List.getElem?_eq_getElem hlk⟩
      obtain ⟨b, o, A', n', c', rfl, hbw, y3, hr⟩ := HT.out.at_ k _ hx
      obtain rfl := hr.len
      have hxl : xs.length ≤ 1000000 := hs.out xs (List.mem_of_getElem? hx)
      obtain ⟨u0, u1, u2⟩ := I.out.outer hlk
      have q3 := (Br.cell (p := ⟨b, _, none⟩) hbw).trans y3
      obtain ⟨w2, hmk2, hbk2, hb2, hs2⟩ := run_make_blk (P := Try.prog) wr 55 elE zvE rfl xs.length hxl
      have v0 := (hb2.cell (p := ⟨w0.heap.size, k, none⟩) u2).trans u0
      have v1 := (hb2.frozen (p := ⟨w0.heap.size, k, none⟩) u2).trans u1
      obtain ⟨w3, hw3⟩ : ∃ w3, w3 = w2.setCell ⟨w0.heap.size, k, none⟩ (.slice (some ⟨wr.heap.size, 0, none⟩) xs.length xs.length) := ⟨_, rfl⟩
      have hgr3 : w2.grownBy w3 (some w0.heap.size) := by rw [hw3]; exact setCell_grown _ _ _ _
      have hbe : BlkE w2 wr.heap.size (List.replicate xs.length zE) := by
        unfold BlkE; rw [List.map_replicate]; exact hbk2
      have hbe3 : BlkE w3 wr.heap.size (List.replicate xs.length zE) := Blk.grown hbe hgr3 (by simp; omega)
      have hB3 : Below w.heap.size w w3 := by rw [hw3]; exact (Br.trans (hb2.mono Br.size)).setCell (by show _ ≤ w0.heap.size; omega) _
      obtain ⟨w4, hcp, hbe4, hgr4⟩ := run_copy_new hbe3 (hr.below hB3) 3
      have hst := Lib.hid (CopyI.step I.out hxl (Nat.le_refl _) hzr hx hb2 hw3 hbe4 hgr4)
      have v2 : w3.cell? ⟨w0.heap.size, k, none⟩ = some (.slice (some ⟨wr.heap.size, 0, none⟩) xs.length xs.length) := by
        rw [hw3]; exact World.cell?_setCell_same _ _ _ v0
      clear u0 u1 u2 hx y3 hr hbk2 hb2 hs2 hbe hbe3 hB3 hbe4 hgr4 hgr3 Y1 X1
      go_wp2_with fail
      rw [← hw3]
      clear hw3 v0 v1 q3 hmk2
      go_wp2_with fail
      rw [hcp]
      clear hcp v2
      go_simp
      go_wp2_with fail
      go_roundw
      case rel => exact ⟨k + 1, by omega, by go_num, hst.out⟩
      case measure => simp [intOf]; omega
    · obtain rfl : k = bs.length := by omega
      obtain ⟨ps, o1, o2, o3⟩ := I.out.ot
      rw [Nat.sub_self] at o1
      rw [List.take_length] at o2
      have y0 := Y1.out.c (i := 0) rfl
      have y1 := Y1.out.c (i := 1) rfl
      have y2 := Y1.out.c (i := 2) rfl
      have f0 := Y1.out.f 0
      have x0 := X1.out.c (i := 0) rfl
      have x1 := X1.out.c (i := 1) rfl
      have x2 := X1.out.c (i := 2) rfl
      have g0 := X1.out.f 0
      have g1 := X1.out.f 1
      have g2 := X1.out.f 2
      replace o1 := Lib.hid o1
      replace o2 := Lib.hid o2
      replace o3 := Lib.hid o3
      replace Br := Lib.hid Br
      go_wp2_with fail
      refine bodyPost_ret (v := tbv (.slice (some ⟨w0.heap.size, 0, none⟩) bs.length bs.length) s ag) (by simp [results, Try.results37, go_sem, x0, x1, x2]) rfl ⟨_, ps, rfl, ?_, o2.out, o3.out, ?_⟩
      · refine OT.base (B := w0.heap.size) ?_ (by omega)
        repeat (refine OT.setLow ?_ (by omega) _ _)
        exact o1.out
      · repeat (first | with_reducible exact Br.out | refine Below.setCell ?_ (by first | omega | (simp; done) | (simp; omega)) _)
end Go.Proofs.Ytnghilcjecjljaa.FdbP
