/-
  Contracts of the statements' few, of areRight and footwayref04.Right, Better, Far, All.
-/
import Derived.Test.YtplgaenfcaphnaaVecO
import Derived.Test.YtplgaenfcaphnaaSlice
namespace Go.Proofs.Ytplgaenfcaphnaa.VecP
open Go.RowKit Go.Sort Go.Proofs.Ytplgaenfcaphnaa.SliceP
set_option linter.unusedVariables false
set_option maxRecDepth 100000

structure V where
  r : Int
  c : Int
  b : Int
  p : Int
  deriving Inhabited, DecidableEq
def V.cells (x : V) : List Value := [.int .i64 x.r, .int .i64 x.c, .int .i64 x.b, .int .i64 x.p]
abbrev V.val (x : V) : Value := vv x.r x.c x.b x.p
def V.ok (x : V) : Bool := okV x.r x.c x.b x.p
def V.bet (x y : V) : Bool := betB x.r x.c x.b x.p y.r y.c y.b y.p
/-- A slice of vecs. -/
def SlV (w : World) (A : Option Addr) (l : List V) : Prop := Sl w 4 A (l.map V.cells)
theorem SlV.below {w w' : World} {A : Option Addr} {l : List V} (h : SlV w A l) (hb : Below w.heap.size w w') : SlV w' A l := Sl.below h hb
theorem SlV.take {w : World} {A : Option Addr} {l : List V} (h : SlV w A l) (n : Nat) : SlV w A (l.take n) := by
  have := Sl.take h n
  rw [← List.map_take] at this; exact this
theorem SlV.at_ {w : World} {A : Option Addr} {l : List V} (h : SlV w A l) {k : Nat} {x : V} (hk : l[k]? = some x) : ∃ b o, A = some ⟨b, o, none⟩ ∧ b < w.heap.size ∧
    w.cell? ⟨b, o + k * 4, none⟩ = some (.int .i64 x.r) ∧ w.cell? ⟨b, o + k * 4 + 1, none⟩ = some (.int .i64 x.c) ∧ w.cell? ⟨b, o + k * 4 + 2, none⟩ = some (.int .i64 x.b) ∧ w.cell? ⟨b, o + k * 4 + 3, none⟩ = some (.int .i64 x.p) := by
  obtain ⟨b, o, rfl, hb, hx⟩ := Sl.at_ h (k := k) (cs := x.cells) (by rw [List.getElem?_map, hk]; rfl)
  exact ⟨b, o, rfl, hb, hx 0 _ rfl, hx 1 _ rfl, hx 2 _ rfl, hx 3 _ rfl⟩

theorem all_no {l : List V} {k : Nat} {x : V} (h : l[k]? = some x) (h1 : V.ok x = false) : l.all V.ok = false := by
  rw [List.all_eq_false]; exact ⟨x, List.mem_of_getElem? h, by simp [h1]⟩
theorem all_yes {l : List V} {k : Nat} {x : V} (h0 : (l.take k).all V.ok = true) (h : l[k]? = some x) (h1 : V.ok x = true) : (l.take (k + 1)).all V.ok = true := by
  rw [List.take_add_one, h]; simp [h1]; simpa using h0
set_option maxHeartbeats 1000000 in
theorem areRight_any (A : Option Addr) (cap : Nat) (l : List V) (w : World) (hl : l.length ≤ 9223372036854775807) (h : SlV w A l) :
    Calls Try.prog 72 #[.slice A l.length cap] w fun e w' => e = .returned (.bool (l.all V.ok)) ∧ Below w.heap.size w w' := by
  have H := Lib.hid h
  clear h
  go_enter Try.func72, Try.ntmps72
  go_wp2_with fail
  go_loopw [7] (fun i wr => ∃ k : Nat, k ≤ l.length ∧ i = .int .i64 k ∧ (l.take k).all V.ok = true ∧ Below w.heap.size w wr) (fun i _ => l.length - (intOf i).toNat)
  case atStart => exact ⟨0, by omega, rfl, by simp, Below.refl _ _⟩
  case round =>
    obtain ⟨k, hk, rfl, hall, hb⟩ := hrel
    have hall := Lib.hid hall
    by_cases hlt : k < l.length
    · obtain ⟨x, hx⟩ : ∃ x, l[k]? = some x := ⟨_, List.getElem?_eq_getElem hlt⟩
      obtain ⟨b, o, rfl, hbw, c0, c1, c2, c3⟩ := H.out.at_ hx
      have c0 := (hb.cell (p := ⟨b, _, none⟩) hbw).trans c0
      have c1 := (hb.cell (p := ⟨b, _, none⟩) hbw).trans c1
      have c2 := (hb.cell (p := ⟨b, _, none⟩) hbw).trans c2
      have c3 := (hb.cell (p := ⟨b, _, none⟩) hbw).trans c3
      have hx := Lib.hid hx
      have hs := hb.size
      cases hok : V.ok x
      all_goals
        have hok' := Lib.hid (show okV x.r x.c x.b x.p = _ from hok)
        have hok := Lib.hid hok
        go_wp2_with fail
        go_at_call 78
        (with_reducible refine (right_is x.r x.c x.b x.p _ hok'.out _).mono ?_)
        rintro e w1 ⟨rfl, hb1⟩
        have B1 : Below w.heap.size w w1 := (hb.alloc (by omega) _).trans (hb1.mono (by simp; omega))
        clear hb1 c0 c1 c2 c3
        go_wp2_with fail
      · go_ret
        exact ⟨by rw [all_no hx.out hok.out]; rfl, B1⟩
      · go_roundw
        case rel => exact ⟨k + 1, by omega, by go_num, all_yes hall.out hx.out hok.out, B1⟩
        case measure => simp [intOf]; omega
    · obtain rfl : k = l.length := by omega
      go_wp2_with fail
      go_ret
      exact ⟨by rw [show l.all V.ok = true by simpa using hall.out]; rfl, hb⟩

theorem okV_iff (r c b p : Int) : okV r c b p = true ↔ (0 ≤ r ∧ r < 65536 ∧ 0 ≤ b ∧ b < 65536 ∧ 0 ≤ c ∧ c < 2147483648 ∧ 0 ≤ p ∧ p < 8) := by
  simp only [okV, inB, Bool.and_eq_true, decide_eq_true_eq]; omega
set_option maxHeartbeats 1000000 in
theorem ref_better0 (r c b p r2 c2 b2 p2 : Int) (w : World) (h : (r != r2) = true) :
    Calls Try.prog 58 #[vv r c b p, vv r2 c2 b2 p2] w fun e w' => e = .returned (.bool (betB r c b p r2 c2 b2 p2)) ∧ Below w.heap.size w w' := by
  have hv : Hid (betB r c b p r2 c2 b2 p2 = decide (r < r2)) := Lib.hid (by have h : r ≠ r2 := (by simpa using h); rw [Bool.eq_iff_iff, betB_iff]; simp; omega)
  go_enter Try.func58, Try.ntmps58
  go_wp2
  all_goals
    go_ret
    exact ⟨by rw [hv.out]; first | rfl | (congr 2; simp; omega), ((Below.refl _ _).alloc (Nat.le_refl _) _).alloc (by simp) _⟩

set_option maxHeartbeats 1000000 in
theorem ref_better1 (r c b p c2 b2 p2 : Int) (w : World) (h : (c != c2) = true) :
    Calls Try.prog 58 #[vv r c b p, vv r c2 b2 p2] w fun e w' => e = .returned (.bool (betB r c b p r c2 b2 p2)) ∧ Below w.heap.size w w' := by
  have hv : Hid (betB r c b p r c2 b2 p2 = decide (c < c2)) := Lib.hid (by have h : c ≠ c2 := (by simpa using h); rw [Bool.eq_iff_iff, betB_iff]; simp; omega)
  go_enter Try.func58, Try.ntmps58
  go_wp2
  all_goals
    go_ret
    exact ⟨by rw [hv.out]; first | rfl | (congr 2; simp; omega), ((Below.refl _ _).alloc (Nat.le_refl _) _).alloc (by simp) _⟩

set_option maxHeartbeats 1000000 in
theorem ref_better2 (r c b p b2 p2 : Int) (w : World) (h : (b != b2) = true) :
    Calls Try.prog 58 #[vv r c b p, vv r c b2 p2] w fun e w' => e = .returned (.bool (betB r c b p r c b2 p2)) ∧ Below w.heap.size w w' := by
  have hv : Hid (betB r c b p r c b2 p2 = decide (b < b2)) := Lib.hid (by have h : b ≠ b2 := (by simpa using h); rw [Bool.eq_iff_iff, betB_iff]; simp; omega)
  go_enter Try.func58, Try.ntmps58
  go_wp2
  all_goals
    go_ret
    exact ⟨by rw [hv.out]; first | rfl | (congr 2; simp; omega), ((Below.refl _ _).alloc (Nat.le_refl _) _).alloc (by simp) _⟩

set_option maxHeartbeats 1000000 in
theorem ref_better3 (r c b p p2 : Int) (w : World)  :
    Calls Try.prog 58 #[vv r c b p, vv r c b p2] w fun e w' => e = .returned (.bool (betB r c b p r c b p2)) ∧ Below w.heap.size w w' := by
  have hv : Hid (betB r c b p r c b p2 = decide (p < p2)) := Lib.hid (by skip; rw [Bool.eq_iff_iff, betB_iff]; simp; done)
  go_enter Try.func58, Try.ntmps58
  go_wp2
  all_goals
    go_ret
    exact ⟨by rw [hv.out]; first | rfl | (congr 2; simp; omega), ((Below.refl _ _).alloc (Nat.le_refl _) _).alloc (by simp) _⟩

theorem ref_better_any (r c b p r2 c2 b2 p2 : Int) (w : World) :
    Calls Try.prog 58 #[vv r c b p, vv r2 c2 b2 p2] w fun e w' => e = .returned (.bool (betB r c b p r2 c2 b2 p2)) ∧ Below w.heap.size w w' := by
  by_cases h0 : r = r2
  · subst h0
    by_cases h1 : c = c2
    · subst h1
      by_cases h2 : b = b2
      · subst h2
        exact ref_better3 _ _ _ _ _ _
      · exact ref_better2 _ _ _ _ _ _ _ (by simpa using h2)
    · exact ref_better1 _ _ _ _ _ _ _ _ (by simpa using h1)
  · exact ref_better0 _ _ _ _ _ _ _ _ _ (by simpa using h0)
end Go.Proofs.Ytplgaenfcaphnaa.VecP
