/-
  Contracts of vec's small functions: isWithin, the parts' two methods, parts; cmp.isNaN and cmp.Compare at int.
-/
import Derived.Test.YtplgaenfcaphnaaRows
import Derived.WalkKit
import Derived.WalkSpells
import Derived.WalkLawsBesides
import Derived.BigQuiet
import Derived.Below
import Derived.Lib.Hide
import Derived.Laws.StructEq
import Derived.Outline
import Derived.Shelf.SlSortCmp.QuietGrown
namespace Go.Proofs.Ytplgaenfcaphnaa.VecP
open Go.RowKit
set_option linter.unusedVariables false
set_option maxRecDepth 100000

/-- Some draws on, some blocks laid. -/
def Grew (w w' : World) : Prop := ∃ p : GrownBy, w' = Go.Sort.grow (w.drewN p.n) p.os
theorem Grew.refl (w : World) : Grew w w := ⟨⟨0, #[]⟩, by rw [Go.Sort.grow_empty]; rfl⟩
theorem Grew.trans {a b c : World} (h : Grew a b) (k : Grew b c) : Grew a c := by
  obtain ⟨p, rfl⟩ := h
  obtain ⟨q, rfl⟩ := k
  exact ⟨⟨p.n + q.n, p.os ++ q.os⟩, by show Go.Sort.grow (Go.Sort.grow ((a.drewN p.n).drewN q.n) p.os) q.os = _; rw [Go.Sort.grow_grow, World.drewN_drewN]⟩
theorem Grew.alloc {a b : World} (h : Grew a b) (o : Obj) : Grew a (b.alloc o) := h.trans ⟨⟨0, #[o]⟩, by rw [Go.Sort.alloc_eq_grow]; rfl⟩
theorem Grew.below {w w' : World} (h : Grew w w') : Below w.heap.size w w' := by
  obtain ⟨p, rfl⟩ := h
  exact ⟨rfl, rfl, rfl, by simp [Go.Sort.grow, World.drewN], fun k hk => by simp [Go.Sort.grow, World.drewN, Array.getElem?_append, hk]⟩
/-- A vec as a value. -/
abbrev vv (r c b p : Int) : Value := .agg #[.int .i64 r, .int .i64 c, .int .i64 b, .int .i64 p]

def inB (n m : Int) : Bool := decide (0 ≤ n) && decide (n ≤ m)

set_option maxHeartbeats 400000 in
theorem within_any (n m : Int) (w : World) :
    Calls Try.prog 79 #[.int .i64 n, .int .i64 m] w fun e w' => e = .returned (.bool (inB n m)) ∧ w = w' := by
  by_cases h0 : decide (0 ≤ n) = true
  · by_cases h1 : decide (n ≤ m) = true
    · go_enter Try.func79, Try.ntmps79
      go_wp2
      go_ret
      exact ⟨by rw [inB, h0, h1]; rfl, rfl⟩
    · replace h1 : decide (n ≤ m) = false := by simpa using h1
      go_enter Try.func79, Try.ntmps79
      go_wp2
      go_ret
      exact ⟨by rw [inB, h0, h1]; rfl, rfl⟩
  · replace h0 : decide (0 ≤ n) = false := by simpa using h0
    go_enter Try.func79, Try.ntmps79
    go_wp2
    go_ret
    exact ⟨by rw [inB, h0]; rfl, rfl⟩
theorem within_is (n m : Int) (b : Bool) (h : inB n m = b) (w : World) :
    Calls Try.prog 79 #[.int .i64 n, .int .i64 m] w fun e w' => e = .returned (.bool b) ∧ w = w' := by
  subst h; exact within_any n m w

set_option maxHeartbeats 400000 in
theorem of0_g (r c b p : Int) (w : World) :
    Calls Try.prog 114 #[.agg #[], vv r c b p] w fun e w' => e = .returned (.int .i64 r) ∧ Grew w w' := by
  go_enter Try.func114, Try.ntmps114
  go_wp2
  go_ret
  exact ⟨rfl, ((Grew.refl _).alloc _).alloc _⟩
theorem of0 (r c b p : Int) (w : World) :
    Calls Try.prog 114 #[.agg #[], vv r c b p] w fun e w' => e = .returned (.int .i64 r) ∧ Below w.heap.size w w' :=
  (of0_g r c b p w).mono fun _ _ ⟨h1, h2⟩ => ⟨h1, h2.below⟩
set_option maxHeartbeats 400000 in
theorem of1_g (r c b p : Int) (w : World) :
    Calls Try.prog 116 #[.agg #[], vv r c b p] w fun e w' => e = .returned (.int .i64 c) ∧ Grew w w' := by
  go_enter Try.func116, Try.ntmps116
  go_wp2
  go_ret
  exact ⟨rfl, ((Grew.refl _).alloc _).alloc _⟩
theorem of1 (r c b p : Int) (w : World) :
    Calls Try.prog 116 #[.agg #[], vv r c b p] w fun e w' => e = .returned (.int .i64 c) ∧ Below w.heap.size w w' :=
  (of1_g r c b p w).mono fun _ _ ⟨h1, h2⟩ => ⟨h1, h2.below⟩
set_option maxHeartbeats 400000 in
theorem of2_g (r c b p : Int) (w : World) :
    Calls Try.prog 118 #[.agg #[], vv r c b p] w fun e w' => e = .returned (.int .i64 b) ∧ Grew w w' := by
  go_enter Try.func118, Try.ntmps118
  go_wp2
  go_ret
  exact ⟨rfl, ((Grew.refl _).alloc _).alloc _⟩
theorem of2 (r c b p : Int) (w : World) :
    Calls Try.prog 118 #[.agg #[], vv r c b p] w fun e w' => e = .returned (.int .i64 b) ∧ Below w.heap.size w w' :=
  (of2_g r c b p w).mono fun _ _ ⟨h1, h2⟩ => ⟨h1, h2.below⟩
set_option maxHeartbeats 400000 in
theorem of3_g (r c b p : Int) (w : World) :
    Calls Try.prog 120 #[.agg #[], vv r c b p] w fun e w' => e = .returned (.int .i64 p) ∧ Grew w w' := by
  go_enter Try.func120, Try.ntmps120
  go_wp2
  go_ret
  exact ⟨rfl, ((Grew.refl _).alloc _).alloc _⟩
theorem of3 (r c b p : Int) (w : World) :
    Calls Try.prog 120 #[.agg #[], vv r c b p] w fun e w' => e = .returned (.int .i64 p) ∧ Below w.heap.size w w' :=
  (of3_g r c b p w).mono fun _ _ ⟨h1, h2⟩ => ⟨h1, h2.below⟩
set_option maxHeartbeats 400000 in
theorem most0_g (w : World) : Calls Try.prog 113 #[.agg #[]] w fun e w' => e = .returned (.int .i64 65535) ∧ Grew w w' := by
  go_enter Try.func113, Try.ntmps113
  go_wp2
  go_ret
  exact ⟨rfl, (Grew.refl _).alloc _⟩
theorem most0 (w : World) : Calls Try.prog 113 #[.agg #[]] w fun e w' => e = .returned (.int .i64 65535) ∧ Below w.heap.size w w' :=
  (most0_g w).mono fun _ _ ⟨h1, h2⟩ => ⟨h1, h2.below⟩
set_option maxHeartbeats 400000 in
theorem most1_g (w : World) : Calls Try.prog 115 #[.agg #[]] w fun e w' => e = .returned (.int .i64 2147483647) ∧ Grew w w' := by
  go_enter Try.func115, Try.ntmps115
  go_wp2
  go_ret
  exact ⟨rfl, (Grew.refl _).alloc _⟩
theorem most1 (w : World) : Calls Try.prog 115 #[.agg #[]] w fun e w' => e = .returned (.int .i64 2147483647) ∧ Below w.heap.size w w' :=
  (most1_g w).mono fun _ _ ⟨h1, h2⟩ => ⟨h1, h2.below⟩
set_option maxHeartbeats 400000 in
theorem most2_g (w : World) : Calls Try.prog 117 #[.agg #[]] w fun e w' => e = .returned (.int .i64 65535) ∧ Grew w w' := by
  go_enter Try.func117, Try.ntmps117
  go_wp2
  go_ret
  exact ⟨rfl, (Grew.refl _).alloc _⟩
theorem most2 (w : World) : Calls Try.prog 117 #[.agg #[]] w fun e w' => e = .returned (.int .i64 65535) ∧ Below w.heap.size w w' :=
  (most2_g w).mono fun _ _ ⟨h1, h2⟩ => ⟨h1, h2.below⟩
set_option maxHeartbeats 400000 in
theorem most3_g (w : World) : Calls Try.prog 119 #[.agg #[]] w fun e w' => e = .returned (.int .i64 7) ∧ Grew w w' := by
  go_enter Try.func119, Try.ntmps119
  go_wp2
  go_ret
  exact ⟨rfl, (Grew.refl _).alloc _⟩

theorem most3 (w : World) : Calls Try.prog 119 #[.agg #[]] w fun e w' => e = .returned (.int .i64 7) ∧ Below w.heap.size w w' :=
  (most3_g w).mono fun _ _ ⟨h1, h2⟩ => ⟨h1, h2.below⟩
set_option maxHeartbeats 400000 in
theorem nan_any (n : Int) (w : World) :
    Calls Try.prog 86 #[.int .i64 n] w fun e w' => e = .returned (.bool false) ∧ w = w' := by
  go_enter Try.func86, Try.ntmps86
  go_wp2
  go_ret
  exact ⟨rfl, rfl⟩
def cmpI (a b : Int) : Int := if a < b then -1 else if b < a then 1 else 0
set_option maxHeartbeats 400000 in
theorem compare_int (a b : Int) (w : World) :
    Calls Try.prog 81 #[.int .i64 a, .int .i64 b] w fun e w' => e = .returned (.int .i64 (cmpI a b)) ∧ w = w' := by
  unfold cmpI
  by_cases h : a < b
  · rw [if_pos h]
    go_enter Try.func81, Try.ntmps81
    go_wp2_with (go_at_call 86; refine (nan_any _ _).mono ?_; rintro e w' ⟨rfl, rfl⟩)
    go_ret
    exact ⟨rfl, rfl⟩
  · rw [if_neg h]
    by_cases h1 : b < a
    · rw [if_pos h1]
      go_enter Try.func81, Try.ntmps81
      go_wp2_with (go_at_call 86; refine (nan_any _ _).mono ?_; rintro e w' ⟨rfl, rfl⟩)
      go_ret
      exact ⟨rfl, rfl⟩
    · rw [if_neg h1]
      go_enter Try.func81, Try.ntmps81
      go_wp2_with (go_at_call 86; refine (nan_any _ _).mono ?_; rintro e w' ⟨rfl, rfl⟩)
      go_ret
      exact ⟨rfl, rfl⟩

/-- The row of the parts. -/
abbrev partsObj : Obj := .cells #[.iface 147 (.agg #[]), .iface 148 (.agg #[]), .iface 149 (.agg #[]), .iface 150 (.agg #[])] 139
set_option maxHeartbeats 400000 in
theorem parts_any (w : World) :
    Calls Try.prog 85 #[] w fun e w' => e = .returned (.slice (some ⟨w.heap.size, 0, none⟩) 4 4) ∧ w' = w.alloc partsObj := by
  go_enter Try.func85, Try.ntmps85
  go_wp2
  go_ret
  exact ⟨rfl, rfl⟩
end Go.Proofs.Ytplgaenfcaphnaa.VecP
