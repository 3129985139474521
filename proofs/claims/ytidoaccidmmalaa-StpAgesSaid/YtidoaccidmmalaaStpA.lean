/-
  A bridge's spanning tree, plainly; rows of states, of infos, of what goes out.
-/
import Derived.Test.YtidoaccidmmalaaRoleU
import Derived.Test.YtidoaccidmmalaaRoleM
import Derived.Test.YtidoaccidmmalaaPortA
namespace Go.Proofs.Ytidoaccidmmalaa.StpP
open Go.RowKit Go.Sort Go.Proofs.Ytidoaccidmmalaa.SliceP Go.Proofs.Ytidoaccidmmalaa.BoxP Go.Proofs.Ytidoaccidmmalaa.VecP Go.Proofs.Ytidoaccidmmalaa.RoleP
open Go.Proofs.Ytidoaccidmmalaa.IntP (RowI SlI OwnI)
open Go.Proofs.Ytidoaccidmmalaa.BoolP (RowB SlB OwnB)
open Go.Proofs.Ytidoaccidmmalaa.PortP (okS roleS tickS)
set_option linter.unusedVariables false
set_option maxRecDepth 100000

theorem bt {w a b : World} (h1 : Below w.heap.size w a) (h2 : Below a.heap.size a b) : Below w.heap.size w b := h1.trans (h2.mono h1.size)
def True1 (w : World) (e : Ending) (w' : World) : Prop := e = .returned (.bool true) ∧ Below w.heap.size w w'
abbrev PT : TypeId := 80
abbrev sc (x : Int × Int) : List Value := [.int .i64 x.1, .int .i64 x.2]
abbrev SlP (w : World) (A : Option Addr) (l : List (Int × Int)) : Prop := Sl w 2 A (l.map sc)
abbrev OwnP (w : World) (B : Nat) (v : Value) (l : List (Int × Int)) : Prop := Own w B 80 2 v (l.map sc)
theorem elP : ElemT Try.prog 27 80 2 := ElemT.mk' (z := .agg #[.int .i64 0, .int .i64 0]) (bytes := 16) Try.underlying27 (by kernel_rfl) (by decide) rfl (by decide)
theorem wholeP (l : List (Int × Int)) : Whole 2 (l.map sc) := fun cs hc => by
  obtain ⟨x, _, rfl⟩ := List.mem_map.1 hc
  exact ⟨rfl, fun u hu => by simp at hu; rcases hu with rfl | rfl <;> rfl⟩
theorem SlP.at_ {w : World} {A : Option Addr} {l : List (Int × Int)} (h : SlP w A l) {k : Nat} {x : Int × Int} (hk : l[k]? = some x) : ∃ b o, A = some ⟨b, o, none⟩ ∧ b < w.heap.size ∧
    w.cell? ⟨b, o + k * 2, none⟩ = some (.int .i64 x.1) ∧ w.cell? ⟨b, o + k * 2 + 1, none⟩ = some (.int .i64 x.2) := by
  obtain ⟨b, o, rfl, hb, hx⟩ := Sl.at_ h (k := k) (cs := sc x) (by rw [List.getElem?_map, hk]; rfl)
  exact ⟨b, o, rfl, hb, by simpa using hx 0 _ rfl, hx 1 _ rfl⟩
structure RowP (w : World) (A : Option Addr) (n c : Nat) (l : List (Int × Int)) : Prop where
  len : n = l.length
  sl : SlP w A l
  cap : n ≤ c
  nil : A = none → c = 0
theorem RowP.below {w w' : World} {A : Option Addr} {n c : Nat} {l : List (Int × Int)} (h : RowP w A n c l) (hb : Below w.heap.size w w') : RowP w' A n c l := ⟨h.len, Sl.below h.sl hb, h.cap, h.nil⟩
/-- Of any row that is owned. -/
theorem own_parts {α : Type} {f : α → List Value} {e : TypeId} {sz : Nat} (h0 : 0 < sz) {w : World} {B : Nat} {A : Option Addr} {n c : Nat} {l : List α} (h : Own w B e sz (.slice A n c) (l.map f)) : n = l.length ∧ Sl w sz A (l.map f) ∧ n ≤ c ∧ (A = none → c = 0) := by
  obtain ⟨A', c', hv, h1, _, hA⟩ := h.form
  have hsl := h.sl h0
  injection hv with e1 e2 e3
  subst e1; subst e3
  rw [List.length_map] at e2 h1
  refine ⟨e2, hsl, by omega, fun hn => ?_⟩
  rcases hA with ⟨_, _, h0⟩ | ⟨g, h1, _⟩
  · exact h0
  · rw [hn] at h1; cases h1
theorem own_form {α : Type} {f : α → List Value} {e : TypeId} {sz : Nat} {w : World} {B : Nat} {v : Value} {l : List α} (h : Own w B e sz v (l.map f)) : ∃ A c, v = .slice A l.length c := by
  obtain ⟨A, c, rfl, _⟩ := h.form
  exact ⟨A, c, by rw [List.length_map]⟩
theorem rowP {w : World} {B : Nat} {A : Option Addr} {n c : Nat} {l : List (Int × Int)} (h : OwnP w B (.slice A n c) l) : RowP w A n c l := by
  obtain ⟨a, b, c, d⟩ := own_parts (by decide) h
  exact ⟨a, b, c, d⟩
abbrev OwnN (w : World) (B : Nat) (v : Value) (l : List N) : Prop := Own w B 66 6 v (l.map N.cells)
theorem elN : ElemT Try.prog 24 66 6 := ElemT.mk' (z := nv false 0 0 0 0 0) (bytes := 48) Try.underlying24 (by kernel_rfl) (by decide) rfl (by decide)
theorem wholeN (l : List N) : Whole 6 (l.map N.cells) := fun cs hc => by
  obtain ⟨x, _, rfl⟩ := List.mem_map.1 hc
  exact ⟨rfl, fun u hu => by simp [N.cells] at hu; rcases hu with rfl | rfl | rfl | rfl | rfl | rfl <;> rfl⟩
theorem rowN {w : World} {B : Nat} {A : Option Addr} {n c : Nat} {l : List N} (h : OwnN w B (.slice A n c) l) : RowN w A n c l := by
  obtain ⟨a, b, c, d⟩ := own_parts (by decide) h
  exact ⟨a, b, c, d⟩
theorem bx_sl {w : World} {b size : Nat} {T : TypeId} {vals : Array Value} {xs : List (List Value)} (h : Bx w b T vals) (hv : vals.toList = xs.flatten) (hl : ∀ c ∈ xs, c.length = size) : Sl w size (some ⟨b, 0, none⟩) xs := fun _ => ⟨b, 0, rfl, h.lt, fun k cs hk j v hj => by
  have := SliceP.getElem?_flatten xs size k j cs v hl hk hj
  rw [← hv] at this
  rw [Nat.zero_add]
  exact h.c (by simpa using this)⟩
/-- One element, laid. -/
theorem sl_one {α : Type} {f : α → List Value} {sz : Nat} (x : α) (hx : (f x).length = sz) (W : World) (T : TypeId) (cs : Array Value) (hc : cs.toList = f x) {n : Nat} (hn : W.heap.size = n) : Sl (W.alloc (.cells cs T)) sz (some ⟨n, 0, none⟩) ([x].map f) :=
  bx_sl (Bx.new W cs T hn) (by rw [hc]; simp) (fun c hc => by simp at hc; subst hc; exact hx)
/-- What goes out. -/
structure Snd where
  port : Int
  v : V
  age : Int
def Snd.cells (x : Snd) : List Value := [.int .i64 x.port, .int .i64 x.v.r, .int .i64 x.v.c, .int .i64 x.v.b, .int .i64 x.v.p, .int .i64 x.age]
abbrev dv (p r c b q a : Int) : Value := .agg #[.int .i64 p, .int .i64 r, .int .i64 c, .int .i64 b, .int .i64 q, .int .i64 a]
abbrev SlD (w : World) (A : Option Addr) (l : List Snd) : Prop := Sl w 6 A (l.map Snd.cells)
abbrev OwnD (w : World) (B : Nat) (v : Value) (l : List Snd) : Prop := Own w B 68 6 v (l.map Snd.cells)
theorem elD : ElemT Try.prog 48 68 6 := ElemT.mk' (z := dv 0 0 0 0 0 0) (bytes := 48) Try.underlying48 (by kernel_rfl) (by decide) rfl (by decide)
theorem wholeD (l : List Snd) : Whole 6 (l.map Snd.cells) := fun cs hc => by
  obtain ⟨x, _, rfl⟩ := List.mem_map.1 hc
  exact ⟨rfl, fun u hu => by simp [Snd.cells] at hu; rcases hu with rfl | rfl | rfl | rfl | rfl | rfl <;> rfl⟩
theorem SlD.at_ {w : World} {A : Option Addr} {l : List Snd} (h : SlD w A l) {k : Nat} {x : Snd} (hk : l[k]? = some x) : ∃ b o, A = some ⟨b, o, none⟩ ∧ b < w.heap.size ∧
    w.cell? ⟨b, o + k * 6, none⟩ = some (.int .i64 x.port) ∧ w.cell? ⟨b, o + k * 6 + 1, none⟩ = some (.int .i64 x.v.r) ∧ w.cell? ⟨b, o + k * 6 + 2, none⟩ = some (.int .i64 x.v.c) ∧ w.cell? ⟨b, o + k * 6 + 3, none⟩ = some (.int .i64 x.v.b) ∧
    w.cell? ⟨b, o + k * 6 + 4, none⟩ = some (.int .i64 x.v.p) ∧ w.cell? ⟨b, o + k * 6 + 5, none⟩ = some (.int .i64 x.age) := by
  obtain ⟨b, o, rfl, hb, hx⟩ := Sl.at_ h (k := k) (cs := x.cells) (by rw [List.getElem?_map, hk]; rfl)
  exact ⟨b, o, rfl, hb, by simpa using hx 0 _ rfl, hx 1 _ rfl, hx 2 _ rfl, hx 3 _ rfl, hx 4 _ rfl, hx 5 _ rfl⟩
structure RowD (w : World) (A : Option Addr) (n c : Nat) (l : List Snd) : Prop where
  len : n = l.length
  sl : SlD w A l
  cap : n ≤ c
  nil : A = none → c = 0
theorem RowD.below {w w' : World} {A : Option Addr} {n c : Nat} {l : List Snd} (h : RowD w A n c l) (hb : Below w.heap.size w w') : RowD w' A n c l := ⟨h.len, Sl.below h.sl hb, h.cap, h.nil⟩
theorem rowD {w : World} {B : Nat} {A : Option Addr} {n c : Nat} {l : List Snd} (h : OwnD w B (.slice A n c) l) : RowD w A n c l := by
  obtain ⟨a, b, c, d⟩ := own_parts (by decide) h
  exact ⟨a, b, c, d⟩
/-- A tree. -/
structure T where
  self : S
  states : List (Int × Int)
  mx : Int
  dl : Int
abbrev T0 : T := ⟨⟨0, [], [], []⟩, [], 0, 0⟩
def T.st (t : T) (p : Nat) : Int × Int := t.states.getD p (0, 0)
def actI (r : Int) : Bool := decide (r = 0) || decide (r = 1)
def T.act (t : T) (p : Nat) : Bool := actI (t.self.role p)
def T.portOk (t : T) (p : Nat) : Bool := okS (t.st p).1 (t.st p).2 t.dl && ((t.act p == !decide ((t.st p).1 = 0)) && !decide (t.mx ≤ (t.self.info p).age))
def T.headOk (t : T) : Bool := t.self.ok && (decide (t.states.length = t.self.costs.length) && (!decide (t.mx < 1) && !decide (255 < t.mx)))
def T.ok (t : T) : Bool := t.headOk && (List.range t.states.length).all t.portOk
def T.settled (t : T) (p : Nat) : Int × Int := roleS (t.st p).1 (t.st p).2 t.dl (t.act p)
def T.settle (t : T) : T := ⟨t.self, (List.range t.states.length).map t.settled, t.mx, t.dl⟩
def know (s : S) (p : Nat) (x : N) : S := ⟨s.id, s.costs, s.ups, s.infos.set p x⟩
def T.know (t : T) (p : Nat) (x : N) : T := ⟨StpP.know t.self p x, t.states, t.mx, t.dl⟩
def T.hears (t : T) (p : Nat) (v : V) (a : Int) : Bool := (t.self.up p && !decide (t.mx ≤ a)) && (!(t.self.info p).has || ((decide ((t.self.info p).v.b = v.b) && decide ((t.self.info p).v.p = v.p)) || v.bet (t.self.info p).v))
def T.hear (t : T) (p : Nat) (v : V) (a : Int) : T := if t.hears p v a = true then (t.know p ⟨true, v, a⟩).settle else t
def older (x : N) : N := if x.has = true then ⟨x.has, x.v, x.age + 1⟩ else x
def aged (m : Int) (x : N) : N := if m ≤ (older x).age then N0 else older x
def T.aged (t : T) : T := ⟨⟨t.self.id, t.self.costs, t.self.ups, t.self.infos.map (StpP.aged t.mx)⟩, t.states, t.mx, t.dl⟩
def T.ticked (t : T) : T := ⟨t.self, t.states.map fun x => tickS x.1 x.2 t.dl, t.mx, t.dl⟩
def T.tick (t : T) : T := t.aged.settle.ticked
def T.send (t : T) (p : Nat) : List Snd := if t.self.tell p t.mx = true then [⟨p, t.self.told p t.mx, t.self.toldAge p t.mx⟩] else []
def T.sends (t : T) : List Snd := (List.range t.states.length).flatMap t.send
def T.upAt (t : T) (p : Nat) (up : Bool) : T := ⟨⟨t.self.id, t.self.costs, t.self.ups.set p up, t.self.infos⟩, t.states, t.mx, t.dl⟩
def T.blankAt (t : T) (p : Nat) (up : Bool) : T := if (up && t.self.up p) = true then t else t.know p N0
def T.link (t : T) (p : Nat) (up : Bool) : T := ((t.blankAt p up).upAt p up).settle
def T.fwdAt (t : T) (p : Nat) : List Int := if (t.st p).1 = 3 then [(p : Int)] else []
def T.fwd (t : T) : List Int := (List.range t.states.length).flatMap t.fwdAt
def newSelf (id : Int) (costs : List Int) : S := ⟨id, costs, costs.map fun _ => true, costs.map fun _ => N0⟩
def rawT (id : Int) (costs : List Int) (m d : Int) : T := ⟨newSelf id costs, costs.map fun _ => (0, 0), m, d⟩
def newT (id : Int) (costs : List Int) (m d : Int) : T := (rawT id costs m d).settle
def newOk (id : Int) (costs : List Int) (m d : Int) : Bool := (newSelf id costs).ok && (!decide (m < 1) && (!decide (255 < m) && (!decide (d < 1) && !decide (30 < d))))
def cfgOk (v : V) (a : Int) : Bool := v.ok && (decide (0 ≤ a) && decide (a ≤ 255))
/-- Where a tree lies. -/
structure TreeR (w : World) (t : T) (AC : Option Addr) (cC : Nat) (AU : Option Addr) (cU : Nat) (AI : Option Addr) (cI : Nat) (AS : Option Addr) (cS : Nat) : Prop where
  self : SelfR w t.self AC cC AU cU AI cI
  sts : RowP w AS t.states.length cS t.states
abbrev StpT : TypeId := 29
abbrev tv (t : T) (AC : Option Addr) (cC : Nat) (AU : Option Addr) (cU : Nat) (AI : Option Addr) (cI : Nat) (AS : Option Addr) (cS : Nat) : Value :=
  .agg #[.int .i64 t.self.id, .slice AC t.self.costs.length cC, .slice AU t.self.ups.length cU, .slice AI t.self.infos.length cI, .slice AS t.states.length cS, .int .i64 t.mx, .int .i64 t.dl]
section
variable {w w' W W' : World} {t : T} {AC : Option Addr} {cC : Nat} {AU : Option Addr} {cU : Nat} {AI : Option Addr} {cI : Nat} {AS : Option Addr} {cS : Nat}
theorem TreeR.below (h : TreeR w t AC cC AU cU AI cI AS cS) (hb : Below w.heap.size w w') : TreeR w' t AC cC AU cU AI cI AS cS := ⟨h.self.below hb, h.sts.below hb⟩
theorem TreeR.zero (w : World) : TreeR w T0 none 0 none 0 none 0 none 0 := ⟨⟨⟨rfl, Sl.nil, Nat.le_refl _, fun _ => rfl⟩, ⟨rfl, Sl.nil, Nat.le_refl _, fun _ => rfl⟩, ⟨rfl, Sl.nil, Nat.le_refl _, fun _ => rfl⟩⟩, ⟨rfl, Sl.nil, Nat.le_refl _, fun _ => rfl⟩⟩
/-- Where it lies, and its box. -/
structure InT (w W : World) (t : T) (AC : Option Addr) (cC : Nat) (AU : Option Addr) (cU : Nat) (AI : Option Addr) (cI : Nat) (AS : Option Addr) (cS : Nat) : Prop where
  b : Below w.heap.size w W
  x : Bx W w.heap.size 29 #[.int .i64 t.self.id, .slice AC t.self.costs.length cC, .slice AU t.self.ups.length cU, .slice AI t.self.infos.length cI, .slice AS t.states.length cS, .int .i64 t.mx, .int .i64 t.dl]
  r : TreeR W t AC cC AU cU AI cI AS cS
theorem InT.below (h : InT w W t AC cC AU cU AI cI AS cS) (hb : Below W.heap.size W W') : InT w W' t AC cC AU cU AI cI AS cS := ⟨bt h.b hb, h.x.below hb, h.r.below hb⟩
theorem InT.new (h : TreeR w t AC cC AU cU AI cI AS cS) : InT w (w.alloc (.cells #[.int .i64 t.self.id, .slice AC t.self.costs.length cC, .slice AU t.self.ups.length cU, .slice AI t.self.infos.length cI, .slice AS t.states.length cS, .int .i64 t.mx, .int .i64 t.dl] 29)) t AC cC AU cU AI cI AS cS :=
  ⟨(Below.refl _ _).alloc (Nat.le_refl _) _, Bx.new _ _ _ rfl, h.below ((Below.refl _ _).alloc (Nat.le_refl _) _)⟩
theorem InT.c (h : InT w W t AC cC AU cU AI cI AS cS) {i : Nat} {v : Value} (hv : (#[.int .i64 t.self.id, .slice AC t.self.costs.length cC, .slice AU t.self.ups.length cU, .slice AI t.self.infos.length cI, .slice AS t.states.length cS, .int .i64 t.mx, .int .i64 t.dl] : Array Value)[i]? = some v) : W.cell? ⟨w.heap.size, i, none⟩ = some v := h.x.c hv
theorem InT.f (h : InT w W t AC cC AU cU AI cI AS cS) (i : Nat) : W.frozen? ⟨w.heap.size, i, none⟩ = false := h.x.f i
/-- A row does not lie in block b. -/
def Off {α : Type} (b : Nat) (A : Option Addr) (l : List α) : Prop := l ≠ [] → ∀ a, A = some a → a.block ≠ b
structure OffT (b : Nat) (t : T) (AC AU AI AS : Option Addr) : Prop where
  c : Off b AC t.self.costs
  u : Off b AU t.self.ups
  n : Off b AI t.self.infos
  s : Off b AS t.states
theorem off_sl {α : Type} {f : α → List Value} {sz b : Nat} {A : Option Addr} {l : List α} (h : Sl w sz A (l.map f)) (hb : w.heap.size ≤ b) : Off b A l := fun hn a ha => by
  obtain ⟨b', o, e, hlt, _⟩ := h (by simpa using hn)
  rw [ha] at e; obtain rfl := Option.some.inj e
  show b' ≠ b
  omega
theorem TreeR.off (h : TreeR w t AC cC AU cU AI cI AS cS) {b : Nat} (hb : w.heap.size ≤ b) : OffT b t AC AU AI AS := ⟨off_sl (f := fun x : Int => [Value.int .i64 x]) h.self.costs.sl hb, off_sl (f := fun x : Bool => [Value.bool x]) h.self.ups.sl hb, off_sl h.self.infos.sl hb, off_sl h.sts.sl hb⟩
/-- A tree is handed back; where 'src' holds of a block of old, no row of it lies there. -/
def RetT (w : World) (src : Nat → Prop) (t : T) (mk : Value → Value) (e : Ending) (w' : World) : Prop :=
  ∃ AC cC AU cU AI cI AS cS, e = .returned (mk (tv t AC cC AU cU AI cI AS cS)) ∧ TreeR w' t AC cC AU cU AI cI AS cS ∧ Below w.heap.size w w' ∧ ∀ b, b < w.heap.size → src b → OffT b t AC AU AI AS
theorem st_at {p : Nat} (h : p < t.states.length) : t.states[p]? = some (t.st p) := by unfold T.st; rw [List.getD_eq_getElem?_getD, List.getElem?_eq_getElem h]; rfl
theorem head_iffT : t.headOk = true ↔ t.self.ok = true ∧ t.states.length = t.self.costs.length ∧ 1 ≤ t.mx ∧ t.mx ≤ 255 := by
  unfold T.headOk
  simp only [Bool.and_eq_true, decide_eq_true_eq, Bool.not_eq_true', decide_eq_false_iff_not]
  exact ⟨fun ⟨a, b, c, d⟩ => ⟨a, b, by omega, by omega⟩, fun ⟨a, b, c, d⟩ => ⟨a, b, by omega, by omega⟩⟩
theorem ok_headT (h : t.ok = true) : t.self.ok = true ∧ t.states.length = t.self.costs.length ∧ 1 ≤ t.mx ∧ t.mx ≤ 255 := by
  unfold T.ok at h; rw [Bool.and_eq_true] at h; exact head_iffT.1 h.1
theorem ok_portT (h : t.ok = true) {p : Nat} (hp : p < t.states.length) : okS (t.st p).1 (t.st p).2 t.dl = true ∧ (t.act p = !decide ((t.st p).1 = 0)) ∧ (t.self.info p).age < t.mx := by
  unfold T.ok at h
  rw [Bool.and_eq_true, List.all_eq_true] at h
  have := h.2 p (List.mem_range.2 hp)
  unfold T.portOk at this
  simp only [Bool.and_eq_true, beq_iff_eq, Bool.not_eq_true', decide_eq_false_iff_not] at this
  exact ⟨this.1, this.2.1, by omega⟩
end
end Go.Proofs.Ytidoaccidmmalaa.StpP

/-
  A tree goes on: it may be, whatever it hears, as time goes on, and links go up and down.
-/
namespace Go.Proofs.Ytidoaccidmmalaa.StpP
open Go.RowKit Go.Sort Go.Proofs.Ytidoaccidmmalaa.SliceP Go.Proofs.Ytidoaccidmmalaa.BoxP Go.Proofs.Ytidoaccidmmalaa.VecP Go.Proofs.Ytidoaccidmmalaa.RoleP
open Go.Proofs.Ytidoaccidmmalaa.PortP (okS roleS tickS ok_iff ok_role ok_tick)
set_option linter.unusedVariables false
set_option maxRecDepth 100000
theorem okS_mk {s : S} (h : s.headOk = true) (k : ∀ p, p < s.costs.length → 1 ≤ s.cost p ∧ s.cost p ≤ 1000 ∧ (s.info p).ok (s.up p) = true) : s.ok = true := by
  unfold S.ok
  rw [h, Bool.true_and, List.all_eq_true]
  intro p hp
  obtain ⟨h1, h2, h3⟩ := k p (List.mem_range.1 hp)
  unfold S.portOk
  simp only [Bool.and_eq_true, decide_eq_true_eq]
  exact ⟨h1, h2, h3⟩
theorem n0_ok (up : Bool) : N0.ok up = true := by unfold N.ok; simp [N.zero]
section
variable {s : S} {p j : Nat} {x : N}
theorem know_same (h : j ≠ p) : (know s p x).info j = s.info j := by
  unfold know S.info
  simp only [List.getD_eq_getElem?_getD]
  rw [List.getElem?_set_ne (Ne.symm h)]
theorem know_at (h : p < s.infos.length) : (know s p x).info p = x := by
  unfold know S.info
  simp only [List.getD_eq_getElem?_getD]
  rw [List.getElem?_set_self h]; rfl
theorem know_head (h : s.headOk = true) : (know s p x).headOk = true := by
  obtain ⟨h1, h2, h3, h4⟩ := head_iff.1 h
  exact head_iff.2 ⟨h1, h2, h3, by unfold know; simp only; rw [List.length_set]; exact h4⟩
theorem know_ok (h : s.ok = true) (hp : p < s.costs.length) (hx : x.ok (s.up p) = true) : (know s p x).ok = true := by
  have hd := ok_head h
  obtain ⟨_, _, _, h4⟩ := head_iff.1 hd
  refine okS_mk (know_head hd) fun j hj => ?_
  obtain ⟨k1, k2, k3⟩ := ok_port h (p := j) hj
  refine ⟨k1, k2, ?_⟩
  by_cases hjp : j = p
  · subst hjp; rw [know_at (by omega)]; exact hx
  · rw [know_same hjp]; exact k3
def upS (s : S) (p : Nat) (u : Bool) : S := ⟨s.id, s.costs, s.ups.set p u, s.infos⟩
theorem up_same {u : Bool} (h : j ≠ p) : (upS s p u).up j = s.up j := by
  unfold upS S.up
  simp only [List.getD_eq_getElem?_getD]
  rw [List.getElem?_set_ne (Ne.symm h)]
theorem up_new {u : Bool} (h : p < s.ups.length) : (upS s p u).up p = u := by
  unfold upS S.up
  simp only [List.getD_eq_getElem?_getD]
  rw [List.getElem?_set_self h]; rfl
theorem up_ok {u : Bool} (h : s.ok = true) (hp : p < s.costs.length) (hx : (s.info p).ok u = true) : (upS s p u).ok = true := by
  have hd := ok_head h
  obtain ⟨h1, h2, h3, h4⟩ := head_iff.1 hd
  refine okS_mk (head_iff.2 ⟨h1, h2, by unfold upS; simp only; rw [List.length_set]; exact h3, h4⟩) fun j hj => ?_
  obtain ⟨k1, k2, k3⟩ := ok_port h (p := j) hj
  refine ⟨k1, k2, ?_⟩
  show (s.info j).ok ((upS s p u).up j) = true
  by_cases hjp : j = p
  · subst hjp; rw [up_new (by omega)]; exact hx
  · rw [up_same hjp]; exact k3
theorem n_ok {x : N} {up : Bool} (h : x.ok up = true) : (x.has = true ∧ up = true ∧ x.v.ok = true ∧ 0 ≤ x.age ∧ x.age ≤ 255) ∨ x = N0 := by
  unfold N.ok at h
  by_cases c : (x.has && up) = true
  · rw [if_pos c] at h
    simp only [Bool.and_eq_true, decide_eq_true_eq] at h c
    exact .inl ⟨c.1, c.2, h.1, h.2.1, h.2.2⟩
  · rw [if_neg c] at h
    exact .inr (zero_iff.1 h)
theorem n_ok_mk {v : V} {a : Int} (h : v.ok = true) (h0 : 0 ≤ a) (h1 : a ≤ 255) : (⟨true, v, a⟩ : N).ok true = true := by
  unfold N.ok; simp [h, h0, h1]
theorem aged_n {m : Int} {x : N} {up : Bool} (h : x.ok up = true) (h0 : 1 ≤ m) (h1 : m ≤ 255) : (aged m x).ok up = true ∧ (aged m x).age < m ∧ ((aged m x).has = true → x.has = true ∧ (aged m x).age = x.age + 1 ∧ (aged m x).v = x.v) := by
  rcases n_ok h with ⟨k1, k2, k3, k4, k5⟩ | rfl
  · unfold aged older
    rw [if_pos k1]
    by_cases c : m ≤ x.age + 1
    · simp only [if_pos c]
      exact ⟨n0_ok _, by show (0 : Int) < m; omega, fun e => by cases e⟩
    · simp only [if_neg c]
      refine ⟨?_, by show x.age + 1 < m; omega, fun _ => ⟨k1, by first | rfl | trivial, by first | rfl | trivial⟩⟩
      show (⟨x.has, x.v, x.age + 1⟩ : N).ok up = true
      rw [k1, k2]
      exact n_ok_mk k3 (by omega) (by omega)
  · have e : aged m N0 = N0 := by unfold aged older; simp
    rw [e]
    exact ⟨n0_ok _, by show (0 : Int) < m; omega, fun e => by cases e⟩
end
section
variable {t : T} {p : Nat}
/-- A tree that may be, but for its being settled. -/
structure Pre (t : T) : Prop where
  self : t.self.ok = true
  len : t.states.length = t.self.costs.length
  mx : 1 ≤ t.mx ∧ t.mx ≤ 255
  sts : ∀ p, p < t.states.length → okS (t.st p).1 (t.st p).2 t.dl = true
  ages : ∀ p, p < t.states.length → (t.self.info p).age < t.mx
theorem ok_mkT (h : t.headOk = true) (k : ∀ p, p < t.states.length → okS (t.st p).1 (t.st p).2 t.dl = true ∧ t.act p = !decide ((t.st p).1 = 0) ∧ (t.self.info p).age < t.mx) : t.ok = true := by
  unfold T.ok
  rw [h, Bool.true_and, List.all_eq_true]
  intro p hp
  obtain ⟨h1, h2, h3⟩ := k p (List.mem_range.1 hp)
  unfold T.portOk
  rw [h1, h2]
  simp; omega
theorem pre_of (h : t.ok = true) : Pre t := by
  obtain ⟨h1, h2, h3, h4⟩ := ok_headT h
  exact ⟨h1, h2, ⟨h3, h4⟩, fun p hp => (ok_portT h hp).1, fun p hp => (ok_portT h hp).2.2⟩
theorem settle_st (hp : p < t.states.length) : t.settle.st p = t.settled p := by
  unfold T.settle T.st
  simp only [List.getD_eq_getElem?_getD]
  rw [List.getElem?_map, List.getElem?_range hp]; rfl
theorem settle_len : t.settle.states.length = t.states.length := by unfold T.settle; simp
theorem role_act {s l d : Int} {a : Bool} : a = !decide ((roleS s l d a).1 = 0) := by
  unfold roleS
  cases a with
  | false => simp
  | true =>
    by_cases h : s = 0
    · simp [h]
    · simp [h]
theorem settle_ok (h : Pre t) : t.settle.ok = true := by
  refine ok_mkT (head_iffT.2 ⟨h.self, by rw [settle_len]; exact h.len, h.mx⟩) fun p hp => ?_
  rw [settle_len] at hp
  rw [settle_st hp]
  exact ⟨ok_role (h.sts p hp), role_act, h.ages p hp⟩
theorem ticked_st (hp : p < t.states.length) : t.ticked.st p = tickS (t.st p).1 (t.st p).2 t.dl := by
  show ((t.states.map fun x => tickS x.1 x.2 t.dl).getD p (0, 0)) = _
  rw [List.getD_eq_getElem?_getD, List.getElem?_map, st_at hp]; rfl
theorem ticked_len : t.ticked.states.length = t.states.length := by unfold T.ticked; simp
theorem tick_zero {s l d : Int} (h : okS s l d = true) : decide ((tickS s l d).1 = 0) = decide (s = 0) := by
  obtain ⟨_, h⟩ := ok_iff.1 h
  unfold tickS
  rcases h with ⟨rfl, rfl⟩ | ⟨rfl, h1, h2⟩ | ⟨rfl, h1, h2⟩ | ⟨rfl, rfl⟩
  · simp
  · by_cases hl : 1 < l <;> simp [hl]
  · by_cases hl : 1 < l <;> simp [hl]
  · simp
theorem ticked_ok (h : t.ok = true) : t.ticked.ok = true := by
  obtain ⟨h1, h2, h3, h4⟩ := ok_headT h
  refine ok_mkT (head_iffT.2 ⟨h1, by rw [ticked_len]; exact h2, h3, h4⟩) fun p hp => ?_
  rw [ticked_len] at hp
  obtain ⟨k1, k2, k3⟩ := ok_portT h hp
  rw [ticked_st hp]
  exact ⟨ok_tick k1, by show t.act p = _; rw [k2, tick_zero k1], k3⟩
theorem aged_info (j : Nat) (h0 : 1 ≤ t.mx) : t.aged.self.info j = aged t.mx (t.self.info j) := by
  unfold T.aged S.info
  simp only [List.getD_eq_getElem?_getD]
  rw [List.getElem?_map]
  cases t.self.infos[j]? with
  | none =>
    show N0 = aged t.mx N0
    unfold aged older; simp
  | some x => rfl
theorem aged_pre (h : t.ok = true) : Pre t.aged := by
  obtain ⟨h1, h2, h3, h4⟩ := ok_headT h
  obtain ⟨k1, k2, k3, k4⟩ := head_iff.1 (ok_head h1)
  have hok : t.aged.self.ok = true := okS_mk (head_iff.2 ⟨k1, k2, k3, by unfold T.aged; simp only; rw [List.length_map]; exact k4⟩) fun j hj => by
    obtain ⟨q1, q2, q3⟩ := ok_port h1 (p := j) hj
    refine ⟨q1, q2, ?_⟩
    rw [aged_info j h3]
    exact (aged_n q3 h3 h4).1
  refine ⟨hok, h2, ⟨h3, h4⟩, fun p hp => (ok_portT h hp).1, fun p hp => ?_⟩
  rw [aged_info p h3]
  obtain ⟨_, _, q3⟩ := ok_port h1 (p := p) (by have : t.aged.states.length = t.states.length := rfl; omega)
  exact (aged_n q3 h3 h4).2.1
theorem tick_ok (h : t.ok = true) : t.tick.ok = true := ticked_ok (settle_ok (aged_pre h))
theorem know_pre {x : N} (h : t.ok = true) (hp : p < t.states.length) (hx : x.ok (t.self.up p) = true) (ha : x.age < t.mx) : Pre (t.know p x) := by
  obtain ⟨h1, h2, h3, h4⟩ := ok_headT h
  obtain ⟨k1, k2, k3, k4⟩ := head_iff.1 (ok_head h1)
  refine ⟨know_ok h1 (by omega) hx, h2, ⟨h3, h4⟩, fun p hp => (ok_portT h hp).1, fun j hj => ?_⟩
  show ((know t.self p x).info j).age < t.mx
  by_cases hjp : j = p
  · subst hjp; rw [know_at (by omega)]; exact ha
  · rw [know_same hjp]; exact (ok_portT h hj).2.2
theorem hear_ok {v : V} {a : Int} (h : t.ok = true) (hp : p < t.states.length) (hv : v.ok = true) (h0 : 0 ≤ a) (h1 : a ≤ 255) : (t.hear p v a).ok = true := by
  unfold T.hear
  by_cases c : t.hears p v a = true
  · rw [if_pos c]
    unfold T.hears at c
    simp only [Bool.and_eq_true, Bool.not_eq_true', decide_eq_false_iff_not] at c
    exact settle_ok (know_pre h hp (by rw [c.1.1]; exact n_ok_mk hv h0 h1) (by show a < t.mx; omega))
  · rw [if_neg c]; exact h
theorem blank_pre {up : Bool} (h : t.ok = true) (hp : p < t.states.length) : Pre ((t.blankAt p up).upAt p up) := by
  obtain ⟨h1, h2, h3, h4⟩ := ok_headT h
  obtain ⟨k1, k2, k3, k4⟩ := head_iff.1 (ok_head h1)
  unfold T.blankAt
  by_cases c : (up && t.self.up p) = true
  · rw [if_pos c]
    simp only [Bool.and_eq_true] at c
    have := up_ok (u := up) h1 (p := p) (by omega) (by have := (ok_port h1 (p := p) (by omega)).2.2; rw [c.2] at this; rw [c.1]; exact this)
    exact ⟨this, h2, ⟨h3, h4⟩, fun p hp => (ok_portT h hp).1, fun j hj => (ok_portT h hj).2.2⟩
  · rw [if_neg c]
    have hkn := know_pre (x := N0) h hp (n0_ok _) (by show (0 : Int) < t.mx; omega)
    have := up_ok (u := up) hkn.self (p := p) (by show p < t.self.costs.length; omega) (by show ((know t.self p N0).info p).ok up = true; rw [know_at (by omega)]; exact n0_ok _)
    exact ⟨this, h2, ⟨h3, h4⟩, fun p hp => (ok_portT h hp).1, fun j hj => hkn.ages j hj⟩
theorem link_ok {up : Bool} (h : t.ok = true) (hp : p < t.states.length) : (t.link p up).ok = true := settle_ok (blank_pre h hp)
end
end Go.Proofs.Ytidoaccidmmalaa.StpP
