/-
  A bridge as its spanning tree sees it: plainly; rows of infos.
-/
import Derived.Test.YtidoaccidmmalaaVecG
import Derived.Test.YtidoaccidmmalaaInts
import Derived.Test.YtidoaccidmmalaaBools
import Derived.Test.YtidoaccidmmalaaBx
namespace Go.Proofs.Ytidoaccidmmalaa.RoleP
open Go.RowKit Go.Sort Go.Proofs.Ytidoaccidmmalaa.SliceP Go.Proofs.Ytidoaccidmmalaa.BoxP Go.Proofs.Ytidoaccidmmalaa.VecP
open Go.Proofs.Ytidoaccidmmalaa.IntP (RowI SlI OwnI)
open Go.Proofs.Ytidoaccidmmalaa.BoolP (RowB SlB)
set_option linter.unusedVariables false
set_option maxRecDepth 100000

/-- What a port knows. -/
structure N where
  has : Bool
  v : V
  age : Int
abbrev V0 : V := ⟨0, 0, 0, 0⟩
abbrev N0 : N := ⟨false, V0, 0⟩
abbrev nv (h : Bool) (r c b p a : Int) : Value := .agg #[.bool h, .int .i64 r, .int .i64 c, .int .i64 b, .int .i64 p, .int .i64 a]
abbrev N.val (x : N) : Value := nv x.has x.v.r x.v.c x.v.b x.v.p x.age
def N.cells (x : N) : List Value := [.bool x.has, .int .i64 x.v.r, .int .i64 x.v.c, .int .i64 x.v.b, .int .i64 x.v.p, .int .i64 x.age]
def N.zero (x : N) : Bool := !x.has && (decide (x.v.r = 0) && (decide (x.v.c = 0) && (decide (x.v.b = 0) && (decide (x.v.p = 0) && decide (x.age = 0)))))
def N.ok (x : N) (up : Bool) : Bool := if (x.has && up) = true then x.v.ok && (decide (0 ≤ x.age) && decide (x.age ≤ 255)) else x.zero
abbrev SlN (w : World) (A : Option Addr) (l : List N) : Prop := Sl w 6 A (l.map N.cells)
theorem SlN.at_ {w : World} {A : Option Addr} {l : List N} (h : SlN w A l) {k : Nat} {x : N} (hk : l[k]? = some x) : ∃ b o, A = some ⟨b, o, none⟩ ∧ b < w.heap.size ∧
    w.cell? ⟨b, o + k * 6, none⟩ = some (.bool x.has) ∧ w.cell? ⟨b, o + k * 6 + 1, none⟩ = some (.int .i64 x.v.r) ∧ w.cell? ⟨b, o + k * 6 + 2, none⟩ = some (.int .i64 x.v.c) ∧ w.cell? ⟨b, o + k * 6 + 3, none⟩ = some (.int .i64 x.v.b) ∧
    w.cell? ⟨b, o + k * 6 + 4, none⟩ = some (.int .i64 x.v.p) ∧ w.cell? ⟨b, o + k * 6 + 5, none⟩ = some (.int .i64 x.age) := by
  obtain ⟨b, o, rfl, hb, hx⟩ := Sl.at_ h (k := k) (cs := x.cells) (by rw [List.getElem?_map, hk]; rfl)
  exact ⟨b, o, rfl, hb, by simpa using hx 0 _ rfl, hx 1 _ rfl, hx 2 _ rfl, hx 3 _ rfl, hx 4 _ rfl, hx 5 _ rfl⟩
structure RowN (w : World) (A : Option Addr) (n c : Nat) (l : List N) : Prop where
  len : n = l.length
  sl : SlN w A l
  cap : n ≤ c
  nil : A = none → c = 0
theorem RowN.below {w w' : World} {A : Option Addr} {n c : Nat} {l : List N} (h : RowN w A n c l) (hb : Below w.heap.size w w') : RowN w' A n c l := ⟨h.len, Sl.below h.sl hb, h.cap, h.nil⟩
/-- A bridge. -/
structure S where
  id : Int
  costs : List Int
  ups : List Bool
  infos : List N
def S.info (s : S) (p : Nat) : N := s.infos.getD p N0
def S.cost (s : S) (p : Nat) : Int := s.costs.getD p 0
def S.up (s : S) (p : Nat) : Bool := s.ups.getD p false
def S.portOk (s : S) (p : Nat) : Bool := decide (1 ≤ s.cost p) && (decide (s.cost p ≤ 1000) && (s.info p).ok (s.up p))
def S.headOk (s : S) : Bool := decide (0 ≤ s.id) && (decide (s.id ≤ 65535) && (decide (1 ≤ s.costs.length) && (decide (s.costs.length ≤ 8) && (decide (s.ups.length = s.costs.length) && decide (s.infos.length = s.costs.length)))))
def S.ok (s : S) : Bool := s.headOk && (List.range s.costs.length).all s.portOk
def farV (v : V) (n : Int) : V := ⟨v.r, min (v.c + n) 2147483647, v.b, v.p⟩
def S.way (s : S) (p : Nat) : V := farV (s.info p).v (s.cost p)
/-- The best of the first k. -/
def S.best (s : S) : Nat → Option Nat
  | 0 => none
  | k + 1 => if (s.info k).has = true ∧ (∀ b, s.best k = some b → (s.way k).bet (s.way b) = true) then some k else s.best k
def S.root (s : S) : Option Nat := match s.best s.infos.length with
  | some b => if (s.way b).r < s.id then some b else none
  | none => none
def optI : Option Nat → Int | some p => p | none => -1
def S.rootI (s : S) : Int := optI s.root
def S.tells (s : S) (p : Int) : V := match s.root with
  | some b => ⟨(s.way b).r, (s.way b).c, s.id, p⟩
  | none => ⟨s.id, 0, s.id, p⟩
def S.role (s : S) (p : Nat) : Int := if s.up p = false then 3 else if s.root = some p then 0 else if ((s.info p).has && (s.info p).v.bet (s.tells p)) = true then 2 else 1
def S.roles (s : S) : List Int := (List.range s.costs.length).map s.role
def S.age (s : S) : Int := match s.root with | some b => (s.info b).age + 1 | none => 0
/-- What is told by a port: nothing, or this, so old. -/
def S.tell (s : S) (p : Nat) (most : Int) : Bool := decide (s.role p = 1) && decide (s.age < most)
abbrev SelfT : TypeId := 26
abbrev selfV (id : Int) (vc vu vi : Value) : Value := .agg #[.int .i64 id, vc, vu, vi]
/-- Where a bridge lies. -/
structure SelfR (w : World) (s : S) (AC : Option Addr) (cC : Nat) (AU : Option Addr) (cU : Nat) (AI : Option Addr) (cI : Nat) : Prop where
  costs : RowI w AC s.costs.length cC s.costs
  ups : RowB w AU s.ups.length cU s.ups
  infos : RowN w AI s.infos.length cI s.infos
theorem SelfR.below {w w' : World} {s : S} {AC : Option Addr} {cC : Nat} {AU : Option Addr} {cU : Nat} {AI : Option Addr} {cI : Nat} (h : SelfR w s AC cC AU cU AI cI) (hb : Below w.heap.size w w') : SelfR w' s AC cC AU cU AI cI := ⟨h.costs.below hb, h.ups.below hb, h.infos.below hb⟩
theorem bt {w a b : World} (h1 : Below w.heap.size w a) (h2 : Below a.heap.size a b) : Below w.heap.size w b := h1.trans (h2.mono h1.size)
def True1 (w : World) (e : Ending) (w' : World) : Prop := e = .returned (.bool true) ∧ Below w.heap.size w w'
theorem Bx.four {w : World} {b : Nat} {T : TypeId} {v0 v1 v2 v3 : Value} (h : Bx w b T #[v0, v1, v2, v3]) : w.cell? ⟨b, 0, none⟩ = some v0 ∧ w.cell? ⟨b, 1, none⟩ = some v1 ∧ w.cell? ⟨b, 2, none⟩ = some v2 ∧ w.cell? ⟨b, 3, none⟩ = some v3 := ⟨h.c (i := 0) rfl, h.c (i := 1) rfl, h.c (i := 2) rfl, h.c (i := 3) rfl⟩
section
variable {s : S}
theorem info_at {p : Nat} (h : p < s.infos.length) : s.infos[p]? = some (s.info p) := by unfold S.info; rw [List.getD_eq_getElem?_getD, List.getElem?_eq_getElem h]; rfl
theorem cost_at {p : Nat} (h : p < s.costs.length) : s.costs[p]? = some (s.cost p) := by unfold S.cost; rw [List.getD_eq_getElem?_getD, List.getElem?_eq_getElem h]; rfl
theorem up_at {p : Nat} (h : p < s.ups.length) : s.ups[p]? = some (s.up p) := by unfold S.up; rw [List.getD_eq_getElem?_getD, List.getElem?_eq_getElem h]; rfl
theorem best_lt : ∀ {k b : Nat}, s.best k = some b → b < k ∧ (s.info b).has = true
  | 0, _, h => by cases h
  | k + 1, b, h => by
    unfold S.best at h
    by_cases c : (s.info k).has = true ∧ (∀ b, s.best k = some b → (s.way k).bet (s.way b) = true)
    · rw [if_pos c] at h; obtain rfl := Option.some.inj h; exact ⟨by omega, c.1⟩
    · rw [if_neg c] at h; have := best_lt h; exact ⟨by omega, this.2⟩
theorem root_best {p : Nat} (h : s.root = some p) : s.best s.infos.length = some p ∧ (s.way p).r < s.id := by
  unfold S.root at h
  cases hb : s.best s.infos.length with
  | none => rw [hb] at h; cases h
  | some b =>
    rw [hb] at h
    simp only at h
    by_cases c : (s.way b).r < s.id
    · rw [if_pos c] at h; obtain rfl := Option.some.inj h; exact ⟨rfl, c⟩
    · rw [if_neg c] at h; cases h
theorem root_lt {p : Nat} (h : s.root = some p) : p < s.infos.length ∧ (s.info p).has = true := best_lt (root_best h).1
theorem head_iff : s.headOk = true ↔ (0 ≤ s.id ∧ s.id ≤ 65535) ∧ (1 ≤ s.costs.length ∧ s.costs.length ≤ 8) ∧ s.ups.length = s.costs.length ∧ s.infos.length = s.costs.length := by
  unfold S.headOk
  simp only [Bool.and_eq_true, decide_eq_true_eq]
  exact ⟨fun ⟨a, b, c, d, e, f⟩ => ⟨⟨a, b⟩, ⟨c, d⟩, e, f⟩, fun ⟨⟨a, b⟩, ⟨c, d⟩, e, f⟩ => ⟨a, b, c, d, e, f⟩⟩
theorem ok_head (h : s.ok = true) : s.headOk = true := by unfold S.ok at h; rw [Bool.and_eq_true] at h; exact h.1
theorem ok_port (h : s.ok = true) {p : Nat} (hp : p < s.costs.length) : 1 ≤ s.cost p ∧ s.cost p ≤ 1000 ∧ (s.info p).ok (s.up p) = true := by
  unfold S.ok at h
  rw [Bool.and_eq_true, List.all_eq_true] at h
  have := h.2 p (List.mem_range.2 hp)
  unfold S.portOk at this
  simp only [Bool.and_eq_true, decide_eq_true_eq] at this
  exact ⟨this.1, this.2.1, this.2.2⟩
theorem zero_iff {x : N} : x.zero = true ↔ x = N0 := by
  obtain ⟨h, ⟨r, c, b, p⟩, a⟩ := x
  unfold N.zero N0 V0
  cases h <;> simp
  constructor
  · rintro ⟨h1, h2, h3, h4, h5⟩; exact ⟨⟨h1, h2, h3, h4⟩, h5⟩
  · rintro ⟨⟨h1, h2, h3, h4⟩, h5⟩; exact ⟨h1, h2, h3, h4, h5⟩
theorem ok_info (h : s.ok = true) {p : Nat} (hp : p < s.costs.length) : (0 ≤ (s.info p).age ∧ (s.info p).age ≤ 255) ∧ ((s.info p).has = true → s.up p = true ∧ (s.info p).v.ok = true) ∧ ((s.info p).has = false → s.info p = N0) := by
  have hx := (ok_port h hp).2.2
  unfold N.ok at hx
  by_cases c : ((s.info p).has && s.up p) = true
  · rw [if_pos c] at hx
    simp only [Bool.and_eq_true, decide_eq_true_eq] at hx c
    exact ⟨⟨hx.2.1, hx.2.2⟩, fun _ => ⟨c.2, hx.1⟩, fun e => by rw [c.1] at e; cases e⟩
  · rw [if_neg c] at hx
    have e := zero_iff.1 hx
    refine ⟨by rw [e]; decide, ?_, fun _ => e⟩
    rw [e]
    intro q
    cases q
theorem way_bd (h : s.ok = true) {p : Nat} (hp : p < s.costs.length) : 0 ≤ (s.info p).v.c ∧ (s.info p).v.c ≤ 2147483647 ∧ 1 ≤ s.cost p ∧ s.cost p ≤ 1000 := by
  obtain ⟨h1, h2, _⟩ := ok_port h hp
  obtain ⟨_, h3, h4⟩ := ok_info h hp
  cases hh : (s.info p).has with
  | true =>
    have := (h3 hh).2
    unfold V.ok at this
    have := (okV_iff _ _ _ _).1 this
    omega
  | false => rw [h4 hh]; exact ⟨by decide, by decide, h1, h2⟩
end
end Go.Proofs.Ytidoaccidmmalaa.RoleP
