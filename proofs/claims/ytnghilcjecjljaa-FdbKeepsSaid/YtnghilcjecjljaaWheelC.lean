/-
  Contracts of wheel.has, without, and what they call.
-/
import Derived.Test.YtnghilcjecjljaaWheelB
namespace Go.Proofs.Ytnghilcjecjljaa.WheelP
open Go.RowKit Go.Sort Go.Proofs.Ytnghilcjecjljaa.SliceP Go.Proofs.Ytnghilcjecjljaa.MacP
set_option linter.unusedVariables false
set_option maxRecDepth 100000

abbrev SlT (w : World) (A : Option Addr) (l : List T) : Prop := Sl w 2 A (l.map T.cells)
abbrev OwnT (w : World) (B : Nat) (v : Value) (l : List T) : Prop := Own w B 75 2 v (l.map T.cells)
theorem elT : ElemT Try.prog 76 75 2 := ElemT.mk' (z := tv 0 0) (bytes := 16) Try.underlying76 (by kernel_rfl) (by decide) rfl (by decide)
theorem whole (l : List T) : Whole 2 (l.map T.cells) := fun cs hc => by
  obtain ⟨x, _, rfl⟩ := List.mem_map.1 hc
  exact ⟨rfl, fun u hu => by simp [T.cells] at hu; rcases hu with rfl | rfl <;> rfl⟩
theorem SlT.at_ {w : World} {A : Option Addr} {l : List T} (h : SlT w A l) {k : Nat} {x : T} (hk : l[k]? = some x) : ∃ b o, A = some ⟨b, o, none⟩ ∧ b < w.heap.size ∧
    w.cell? ⟨b, o + k * 2, none⟩ = some (.int .i64 x.id) ∧ w.cell? ⟨b, o + k * 2 + 1, none⟩ = some (.int .i64 x.due) := by
  obtain ⟨b, o, rfl, hb, hx⟩ := Sl.at_ h (k := k) (cs := x.cells) (by rw [List.getElem?_map, hk]; rfl)
  exact ⟨b, o, rfl, hb, hx 0 _ rfl, hx 1 _ rfl⟩
theorem SlT.take {w : World} {A : Option Addr} {l : List T} (h : SlT w A l) (n : Nat) : SlT w A (l.take n) := by
  have := Sl.take h n
  rw [← List.map_take] at this; exact this
theorem SlT.below {w w' : World} {A : Option Addr} {l : List T} (h : SlT w A l) (hb : Below w.heap.size w w') : SlT w' A l := Sl.below h hb
theorem sl_lit (W : World) (i a : Int) (n : Nat) (hn : W.heap.size = n) : SlT (W.alloc (tObj i a)) (some ⟨n, 0, none⟩) [⟨i, a⟩] := fun _ => by
  subst hn
  refine ⟨W.heap.size, 0, rfl, by simp, fun k cs hk j v hj => ?_⟩
  match k, hk with
  | 0, hk =>
    obtain rfl : T.cells ⟨i, a⟩ = cs := by simpa using hk
    match j, hj with
    | 0, hj => simp [T.cells] at hj; subst hj; go_simp
    | 1, hj => simp [T.cells] at hj; subst hj; go_simp
    | j + 2, hj => simp [T.cells] at hj
  | k + 1, hk => simp at hk

/-- A row of timers, new, is handed back. -/
def RetT (w : World) (l : List T) (e : Ending) (w' : World) : Prop :=
  ∃ A c, e = .returned (.slice A l.length c) ∧ OwnT w' w.heap.size (.slice A l.length c) l ∧ (A = none → c = 0) ∧ Below w.heap.size w w'
theorem retT {w w' : World} {v : Value} {l : List T} (h : OwnT w' w.heap.size v l) (hb : Below w.heap.size w w') : RetT w l (.returned v) w' := by
  obtain ⟨A, c, rfl, _, _, hA⟩ := h.form
  have e : (l.map T.cells).length = l.length := by simp
  rw [e] at h ⊢
  refine ⟨A, c, rfl, h, fun hn => ?_, hb⟩
  rcases hA with ⟨_, _, h0⟩ | ⟨g, h1, _⟩
  · exact h0
  · rw [hn] at h1; cases h1

def hasI (l : List T) (id : Int) : Bool := l.any fun x => x.id == id
def placeI (l : List T) (id : Int) : Int := if hasI l id then (l.findIdx fun x => x.id == id : Nat) else -1
theorem has_more {l : List T} {k : Nat} {x : T} {id : Int} (h : hasI (l.take k) id = false) (hx : l[k]? = some x) (hn : (x.id == id) = false) : hasI (l.take (k + 1)) id = false := by
  unfold hasI at *
  rw [List.take_add_one, hx, List.any_append, h]; simp [hn]
theorem has_hit {l : List T} {k : Nat} {x : T} {id : Int} (hx : l[k]? = some x) (hn : (x.id == id) = true) : hasI l id = true := by
  unfold hasI; rw [List.any_eq_true]; exact ⟨x, List.mem_of_getElem? hx, hn⟩
theorem place_hit {l : List T} {k : Nat} {x : T} {id : Int} (h : hasI (l.take k) id = false) (hx : l[k]? = some x) (hn : (x.id == id) = true) : placeI l id = k := by
  have hk : k < l.length := (List.getElem?_eq_some_iff.1 hx).1
  have e : l[k] = x := by rw [List.getElem?_eq_getElem hk] at hx; exact Option.some.inj hx
  unfold placeI
  rw [if_pos (has_hit hx hn)]
  congr 1
  refine (List.findIdx_eq hk).2 ⟨by rw [e]; exact hn, fun j hj => ?_⟩
  unfold hasI at h
  rw [List.any_eq_false] at h
  have := h l[j] (by rw [List.mem_take_iff_getElem]; exact ⟨j, by omega, rfl⟩)
  simpa using this
theorem place_none {l : List T} {id : Int} (h : hasI (l.take l.length) id = false) : placeI l id = -1 := by
  rw [List.take_length] at h
  unfold placeI; rw [h]; rfl
theorem place_neg {l : List T} {id : Int} : decide (placeI l id < 0) = !hasI l id := by
  unfold placeI; cases hasI l id <;> simp
theorem place_geq {l : List T} {id : Int} : decide (0 ≤ placeI l id) = hasI l id := by
  unfold placeI; cases hasI l id <;> simp

set_option maxHeartbeats 400000 in
theorem has1_any (i a id : Int) (c : Nat) (w : World) (hc : w.cell? ⟨c, 0, none⟩ = some (.int .i64 id)) (hlt : c < w.heap.size) :
    Calls Try.prog 88 #[tv i a, .pointer (some ⟨c, 0, none⟩)] w fun e w' => e = .returned (.bool (i == id)) ∧ Below w.heap.size w w' := by
  go_enter Try.func88, Try.ntmps88
  go_wp2
  go_ret
  exact ⟨rfl, (Below.refl _ _).alloc (Nat.le_refl _) _⟩

abbrev hasF (c : Nat) : Value := .func (.func 88) #[] #[.pointer (some ⟨c, 0, none⟩)]
set_option maxHeartbeats 2000000 in
theorem index_any (A : Option Addr) (cap : Nat) (l : List T) (id : Int) (c : Nat) (w : World) (hl : l.length ≤ 1000000) (h : SlT w A l) (hc : w.cell? ⟨c, 0, none⟩ = some (.int .i64 id)) (hlt : c < w.heap.size) :
    Calls Try.prog 98 #[.slice A l.length cap, hasF c] w fun e w' => e = .returned (.int .i64 (placeI l id)) ∧ Below w.heap.size w w' := by
  have H := Lib.hid h
  have HC := Lib.hid hc
  clear h hc
  go_enter Try.func98, Try.ntmps98
  go_wp2_with fail
  go_loopw [8] (fun i wr => ∃ k : Nat, k ≤ l.length ∧ i = .int .i64 k ∧ hasI (l.take k) id = false ∧ Below w.heap.size w wr) (fun i _ => l.length - (intOf i).toNat)
  case atStart => exact ⟨0, by omega, rfl, rfl, Below.refl _ _⟩
  case round =>
    obtain ⟨k, hk, rfl, hno, hb⟩ := hrel
    replace hno := Lib.hid hno
    by_cases hlk : k < l.length
    · obtain ⟨x, hx⟩ : ∃ x, l[k]? = some x := ⟨_, List.getElem?_eq_getElem hlk⟩
      obtain ⟨b, o, rfl, hbw, x0, x1⟩ := SlT.at_ H.out hx
      replace x0 := (hb.cell (p := ⟨b, _, none⟩) hbw).trans x0
      replace x1 := (hb.cell (p := ⟨b, _, none⟩) hbw).trans x1
      have hcr := Lib.hid ((hb.cell (p := ⟨c, _, none⟩) hlt).trans HC.out)
      have hs := hb.size
      have hltr : c < wr.heap.size := by omega
      replace hx := Lib.hid hx
      cases hh : x.id == id
      all_goals
        replace hh := Lib.hid hh
        go_wp2_with fail
        go_at_call 88
        (with_reducible refine (has1_any x.id x.due id c _ hcr.out hltr).mono ?_)
        rintro e w1 ⟨rfl, hb1⟩
        rw [hh.out]
        have B1 : Below w.heap.size w w1 := hb.trans (hb1.mono hs)
        clear hb1 x0 x1
        go_wp2_with fail
      · go_roundw
        case rel => exact ⟨k + 1, by omega, by go_num, has_more hno.out hx.out hh.out, B1⟩
        case measure => simp [intOf]; omega
      · go_ret
        exact ⟨by rw [place_hit hno.out hx.out hh.out]; rfl, B1⟩
    · obtain rfl : k = l.length := by omega
      go_wp2_with fail
      go_ret
      exact ⟨by rw [place_none hno.out]; rfl, hb⟩

set_option maxHeartbeats 1000000 in
theorem contains_any (A : Option Addr) (cap : Nat) (l : List T) (id : Int) (c : Nat) (w : World) (hl : l.length ≤ 1000000) (h : SlT w A l) (hc : w.cell? ⟨c, 0, none⟩ = some (.int .i64 id)) (hlt : c < w.heap.size) :
    Calls Try.prog 87 #[.slice A l.length cap, hasF c] w fun e w' => e = .returned (.bool (hasI l id)) ∧ Below w.heap.size w w' := by
  have H := Lib.hid h
  have HC := Lib.hid hc
  clear h hc
  go_enter Try.func87, Try.ntmps87
  go_wp2_with fail
  go_at_call 98
  (with_reducible refine (index_any A cap l id c _ hl H.out HC.out hlt).mono ?_)
  rintro e w1 ⟨rfl, hb1⟩
  go_wp2_with fail
  go_ret
  exact ⟨by rw [← place_geq]; rfl, hb1⟩
set_option maxHeartbeats 1000000 in
theorem has_any (A : Option Addr) (cap : Nat) (l : List T) (id : Int) (w : World) (hl : l.length ≤ 1000000) (h : SlT w A l) :
    Calls Try.prog 75 #[.slice A l.length cap, .int .i64 id] w fun e w' => e = .returned (.bool (hasI l id)) ∧ Below w.heap.size w w' := by
  have H := Lib.hid (Sl.alloc h (.cells #[.int .i64 id] 3))
  clear h
  go_enter Try.func75, Try.ntmps75
  go_wp2_with fail
  go_at_call 87
  (with_reducible refine (contains_any A cap l id w.heap.size _ hl H.out (by go_simp) (by simp)).mono ?_)
  rintro e w1 ⟨rfl, hb1⟩
  have B1 : Below w.heap.size w w1 := ((Below.refl _ _).alloc (Nat.le_refl _) _).trans (hb1.mono (by simp))
  clear hb1
  go_wp2_with fail
  go_ret
  exact ⟨rfl, B1⟩

def without (l : List T) (id : Int) : List T := l.filter fun x => x.id != id
theorem without_yes {l : List T} {k : Nat} {x : T} {id : Int} (hx : l[k]? = some x) (hn : (x.id != id) = true) : without (l.take (k + 1)) id = without (l.take k) id ++ [x] := by
  unfold without
  rw [List.take_add_one, hx, List.filter_append]; simp [hn]
theorem without_no {l : List T} {k : Nat} {x : T} {id : Int} (hx : l[k]? = some x) (hn : (x.id != id) = false) : without (l.take (k + 1)) id = without (l.take k) id := by
  unfold without
  rw [List.take_add_one, hx, List.filter_append]; simp [hn]
theorem without_length (l : List T) (id : Int) : (without l id).length ≤ l.length := List.length_filter_le _ _
theorem flatT_length (l : List T) : (l.map T.cells).length = l.length := by simp
theorem below_grown {w wr : World} {row : Option Nat} {W w' : World} (h : Below w.heap.size w wr) (hg : W.grownBy w' row) (hW : Below w.heap.size w W) (hr : ∀ k, row = some k → w.heap.size ≤ k) : Below w.heap.size w w' := hW.grown hg hW.size hr

end Go.Proofs.Ytnghilcjecjljaa.WheelP
