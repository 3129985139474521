/-
  Contracts of the statements' few, of areRight and footwayref04.Right, Better, Far, All.
-/
import Derived.Test.YtidoaccidmmalaaVecO
import Derived.Test.YtidoaccidmmalaaSlice
namespace Go.Proofs.Ytidoaccidmmalaa.VecP
open Go.RowKit Go.Sort Go.Proofs.Ytidoaccidmmalaa.SliceP
set_option linter.unusedVariables false
set_option maxRecDepth 100000

structure V where
  r : Int
  c : Int
  b : Int
  p : Int
  deriving Inhabited, DecidableEq
def V.cells (x : V) : List Value := [.int .i64 x.r, .int .i64 x.c, .int .i64 x.b, .int .i64 x.p]
abbrev V.val (x : V) : Value := vv x.r x.c x.b x.p
def V.ok (x : V) : Bool := okV x.r x.c x.b x.p
def V.bet (x y : V) : Bool := betB x.r x.c x.b x.p y.r y.c y.b y.p
/-- A slice of vecs. -/
def SlV (w : World) (A : Option Addr) (l : List V) : Prop := Sl w 4 A (l.map V.cells)
theorem SlV.below {w w' : World} {A : Option Addr} {l : List V} (h : SlV w A l) (hb : Below w.heap.size w w') : SlV w' A l := Sl.below h hb
theorem SlV.take {w : World} {A : Option Addr} {l : List V} (h : SlV w A l) (n : Nat) : SlV w A (l.take n) := by
  have := Sl.take h n
  rw [← List.map_take] at this; exact this
theorem SlV.at_ {w : World} {A : Option Addr} {l : List V} (h : SlV w A l) {k : Nat} {x : V} (hk : l[k]? = some x) : ∃ b o, A = some ⟨b, o, none⟩ ∧ b < w.heap.size ∧
    w.cell? ⟨b, o + k * 4, none⟩ = some (.int .i64 x.r) ∧ w.cell? ⟨b, o + k * 4 + 1, none⟩ = some (.int .i64 x.c) ∧ w.cell? ⟨b, o + k * 4 + 2, none⟩ = some (.int .i64 x.b) ∧ w.cell? ⟨b, o + k * 4 + 3, none⟩ = some (.int .i64 x.p) := by
  obtain ⟨b, o, rfl, hb, hx⟩ := Sl.at_ h (k := k) (cs := x.cells) (by rw [List.getElem?_map, hk]; rfl)
  exact ⟨b, o, rfl, hb, hx 0 _ rfl, hx 1 _ rfl, hx 2 _ rfl, hx 3 _ rfl⟩

theorem all_no {l : List V} {k : Nat} {x : V} (h : l[k]? = some x) (h1 : V.ok x = false) : l.all V.ok = false := by
  rw [List.all_eq_false]; exact ⟨x, List.mem_of_getElem? h, by simp [h1]⟩
theorem all_yes {l : List V} {k : Nat} {x : V} (h0 : (l.take k).all V.ok = true) (h : l[k]? = some x) (h1 : V.ok x = true) : (l.take (k + 1)).all V.ok = true := by
  rw [List.take_add_one, h]; simp [h1]; simpa using h0
theorem okV_iff (r c b p : Int) : okV r c b p = true ↔ (0 ≤ r ∧ r < 65536 ∧ 0 ≤ b ∧ b < 65536 ∧ 0 ≤ c ∧ c < 2147483648 ∧ 0 ≤ p ∧ p < 8) := by
  simp only [okV, inB, Bool.and_eq_true, decide_eq_true_eq]; omega
set_option maxHeartbeats 2000000 in
theorem ref_right_any (r c b p : Int) (w : World) :
    Calls Try.prog 46 #[vv r c b p] w fun e w' => e = .returned (.bool (okV r c b p)) ∧ Below w.heap.size w w' := by
  cases h : okV r c b p
  · have h : ¬ (0 ≤ r ∧ r < 65536 ∧ 0 ≤ b ∧ b < 65536 ∧ 0 ≤ c ∧ c < 2147483648 ∧ 0 ≤ p ∧ p < 8) := by rw [← okV_iff, h]; simp
    by_cases h0 : 0 ≤ r
    case neg =>
      clear h
      have h0' : decide (0 ≤ r) = false := by simpa using h0
      go_enter Try.func46, Try.ntmps46
      go_wp2
      go_ret
      exact ⟨rfl, (Below.refl _ _).alloc (Nat.le_refl _) _⟩
    by_cases h1 : r < 65536
    case neg =>
      clear h
      have h1' : decide (r < 65536) = false := by simpa using h1
      go_enter Try.func46, Try.ntmps46
      go_wp2
      go_ret
      exact ⟨rfl, (Below.refl _ _).alloc (Nat.le_refl _) _⟩
    by_cases h2 : 0 ≤ b
    case neg =>
      clear h
      have h2' : decide (0 ≤ b) = false := by simpa using h2
      go_enter Try.func46, Try.ntmps46
      go_wp2
      go_ret
      exact ⟨rfl, (Below.refl _ _).alloc (Nat.le_refl _) _⟩
    by_cases h3 : b < 65536
    case neg =>
      clear h
      have h3' : decide (b < 65536) = false := by simpa using h3
      go_enter Try.func46, Try.ntmps46
      go_wp2
      go_ret
      exact ⟨rfl, (Below.refl _ _).alloc (Nat.le_refl _) _⟩
    by_cases h4 : 0 ≤ c
    case neg =>
      clear h
      have h4' : decide (0 ≤ c) = false := by simpa using h4
      go_enter Try.func46, Try.ntmps46
      go_wp2
      go_ret
      exact ⟨rfl, (Below.refl _ _).alloc (Nat.le_refl _) _⟩
    by_cases h5 : c < 2147483648
    case neg =>
      clear h
      have h5' : decide (c < 2147483648) = false := by simpa using h5
      go_enter Try.func46, Try.ntmps46
      go_wp2
      go_ret
      exact ⟨rfl, (Below.refl _ _).alloc (Nat.le_refl _) _⟩
    by_cases h6 : 0 ≤ p
    case neg =>
      clear h
      have h6' : decide (0 ≤ p) = false := by simpa using h6
      go_enter Try.func46, Try.ntmps46
      go_wp2
      go_ret
      exact ⟨rfl, (Below.refl _ _).alloc (Nat.le_refl _) _⟩
    by_cases h7 : p < 8
    case neg =>
      clear h
      have h7' : decide (p < 8) = false := by simpa using h7
      go_enter Try.func46, Try.ntmps46
      go_wp2
      go_ret
      exact ⟨rfl, (Below.refl _ _).alloc (Nat.le_refl _) _⟩
    exact absurd ⟨h0, h1, h2, h3, h4, h5, h6, h7⟩ h
  · obtain ⟨h0, h1, h2, h3, h4, h5, h6, h7⟩ := (okV_iff r c b p).1 h
    clear h
    go_enter Try.func46, Try.ntmps46
    go_wp2
    go_ret
    exact ⟨rfl, (Below.refl _ _).alloc (Nat.le_refl _) _⟩
theorem ref_right_is (r c b p : Int) (x : Bool) (h : okV r c b p = x) (w : World) :
    Calls Try.prog 46 #[vv r c b p] w fun e w' => e = .returned (.bool x) ∧ Below w.heap.size w w' := by
  subst h; exact ref_right_any r c b p w

set_option maxHeartbeats 1000000 in
theorem ref_better0 (r c b p r2 c2 b2 p2 : Int) (w : World) (h : (r != r2) = true) :
    Calls Try.prog 47 #[vv r c b p, vv r2 c2 b2 p2] w fun e w' => e = .returned (.bool (betB r c b p r2 c2 b2 p2)) ∧ Below w.heap.size w w' := by
  have hv : Hid (betB r c b p r2 c2 b2 p2 = decide (r < r2)) := Lib.hid (by have h : r ≠ r2 := (by simpa using h); rw [Bool.eq_iff_iff, betB_iff]; simp; omega)
  go_enter Try.func47, Try.ntmps47
  go_wp2
  all_goals
    go_ret
    exact ⟨by rw [hv.out]; first | rfl | (congr 2; simp; omega), ((Below.refl _ _).alloc (Nat.le_refl _) _).alloc (by simp) _⟩

set_option maxHeartbeats 1000000 in
theorem ref_better1 (r c b p c2 b2 p2 : Int) (w : World) (h : (c != c2) = true) :
    Calls Try.prog 47 #[vv r c b p, vv r c2 b2 p2] w fun e w' => e = .returned (.bool (betB r c b p r c2 b2 p2)) ∧ Below w.heap.size w w' := by
  have hv : Hid (betB r c b p r c2 b2 p2 = decide (c < c2)) := Lib.hid (by have h : c ≠ c2 := (by simpa using h); rw [Bool.eq_iff_iff, betB_iff]; simp; omega)
  go_enter Try.func47, Try.ntmps47
  go_wp2
  all_goals
    go_ret
    exact ⟨by rw [hv.out]; first | rfl | (congr 2; simp; omega), ((Below.refl _ _).alloc (Nat.le_refl _) _).alloc (by simp) _⟩

set_option maxHeartbeats 1000000 in
theorem ref_better2 (r c b p b2 p2 : Int) (w : World) (h : (b != b2) = true) :
    Calls Try.prog 47 #[vv r c b p, vv r c b2 p2] w fun e w' => e = .returned (.bool (betB r c b p r c b2 p2)) ∧ Below w.heap.size w w' := by
  have hv : Hid (betB r c b p r c b2 p2 = decide (b < b2)) := Lib.hid (by have h : b ≠ b2 := (by simpa using h); rw [Bool.eq_iff_iff, betB_iff]; simp; omega)
  go_enter Try.func47, Try.ntmps47
  go_wp2
  all_goals
    go_ret
    exact ⟨by rw [hv.out]; first | rfl | (congr 2; simp; omega), ((Below.refl _ _).alloc (Nat.le_refl _) _).alloc (by simp) _⟩

set_option maxHeartbeats 1000000 in
theorem ref_better3 (r c b p p2 : Int) (w : World)  :
    Calls Try.prog 47 #[vv r c b p, vv r c b p2] w fun e w' => e = .returned (.bool (betB r c b p r c b p2)) ∧ Below w.heap.size w w' := by
  have hv : Hid (betB r c b p r c b p2 = decide (p < p2)) := Lib.hid (by skip; rw [Bool.eq_iff_iff, betB_iff]; simp; done)
  go_enter Try.func47, Try.ntmps47
  go_wp2
  all_goals
    go_ret
    exact ⟨by rw [hv.out]; first | rfl | (congr 2; simp; omega), ((Below.refl _ _).alloc (Nat.le_refl _) _).alloc (by simp) _⟩

theorem ref_better_any (r c b p r2 c2 b2 p2 : Int) (w : World) :
    Calls Try.prog 47 #[vv r c b p, vv r2 c2 b2 p2] w fun e w' => e = .returned (.bool (betB r c b p r2 c2 b2 p2)) ∧ Below w.heap.size w w' := by
  by_cases h0 : r = r2
  · subst h0
    by_cases h1 : c = c2
    · subst h1
      by_cases h2 : b = b2
      · subst h2
        exact ref_better3 _ _ _ _ _ _
      · exact ref_better2 _ _ _ _ _ _ _ (by simpa using h2)
    · exact ref_better1 _ _ _ _ _ _ _ _ (by simpa using h1)
  · exact ref_better0 _ _ _ _ _ _ _ _ _ (by simpa using h0)
end Go.Proofs.Ytidoaccidmmalaa.VecP
