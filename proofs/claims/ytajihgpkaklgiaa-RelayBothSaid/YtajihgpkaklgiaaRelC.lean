/-
  What is asked of relay's own functions; the statements' alive.
-/
import Derived.Test.YtajihgpkaklgiaaRelR
import Derived.Test.YtajihgpkaklgiaaLruB
namespace Go.Proofs.Ytajihgpkaklgiaa.RelP
open Go.RowKit Go.Sort Go.Proofs.Ytajihgpkaklgiaa.SliceP Go.Proofs.Ytajihgpkaklgiaa.BoxP
open Go.Proofs.Ytajihgpkaklgiaa.IntP (RowI SlI OwnI)
open Go.Proofs.Ytajihgpkaklgiaa.LruP (hasI without ref_has_is ref_without_any)
set_option linter.unusedVariables false
set_option maxRecDepth 100000
/-- The contracts of relay's own functions. -/
structure RelC : Prop where
  flood_no : ∀ {A : Option Addr} {c : Nat} {l : List St} {w : World} {p er : Int}, RowP w A l.length c l → l.length ≤ 12 → why l p = er → er ≠ 0 → Calls Try.prog 7 #[.slice A l.length c, .int .i64 p] w fun e w' => ∃ A' c', e = .returned (.tuple #[.slice A' 0 c', .int .i64 er]) ∧ Below w.heap.size w w'
  flood_ok : ∀ {A : Option Addr} {c : Nat} {l : List St} {w : World} {p : Nat}, RowP w A l.length c l → l.length ≤ 12 → why l p = 0 → Calls Try.prog 7 #[.slice A l.length c, .int .i64 (p : Int)] w fun e w' => ∃ A' c', e = .returned (.tuple #[.slice A' (flood l p).length c', .int .i64 0]) ∧ RowI w' A' (flood l p).length c' (flood l p) ∧ Below w.heap.size w w'
  egress_no : ∀ {A : Option Addr} {c : Nat} {l : List St} {w : World} {p cl o er : Int}, RowP w A l.length c l → l.length ≤ 12 → why l p = er → er ≠ 0 → Calls Try.prog 8 #[.slice A l.length c, .int .i64 p, .int .i64 cl, .int .i64 o] w fun e w' => ∃ A' c', e = .returned (.tuple #[.slice A' 0 c', .int .i64 er]) ∧ Below w.heap.size w w'
  egress_arg : ∀ {A : Option Addr} {c : Nat} {l : List St} {w : World} {p : Nat} {cl o : Int}, RowP w A l.length c l → l.length ≤ 12 → why l p = 0 → badC cl o = true → Calls Try.prog 8 #[.slice A l.length c, .int .i64 (p : Int), .int .i64 cl, .int .i64 o] w fun e w' => ∃ A' c', e = .returned (.tuple #[.slice A' 0 c', .int .i64 1]) ∧ Below w.heap.size w w'
  egress_ok : ∀ {A : Option Addr} {c : Nat} {l : List St} {w : World} {p : Nat} {cl o : Int}, RowP w A l.length c l → l.length ≤ 12 → why l p = 0 → badC cl o = false → Calls Try.prog 8 #[.slice A l.length c, .int .i64 (p : Int), .int .i64 cl, .int .i64 o] w fun e w' => ∃ A' c', e = .returned (.tuple #[.slice A' (egress l p cl o).length c', .int .i64 0]) ∧ RowI w' A' (egress l p cl o).length c' (egress l p cl o) ∧ Below w.heap.size w w'
  takes_no : ∀ {A : Option Addr} {c : Nat} {l : List St} {w : World} {p er : Int}, RowP w A l.length c l → l.length ≤ 12 → why l p = er → er ≠ 0 → Calls Try.prog 9 #[.slice A l.length c, .int .i64 p] w fun e w' => e = .returned (.tuple #[.bool false, .bool false, .int .i64 er]) ∧ Below w.heap.size w w'
  takes_ok : ∀ {A : Option Addr} {c : Nat} {l : List St} {w : World} {p : Nat}, RowP w A l.length c l → l.length ≤ 12 → why l p = 0 → Calls Try.prog 9 #[.slice A l.length c, .int .i64 (p : Int)] w fun e w' => e = .returned (.tuple #[.bool (decide (2 ≤ (st l p).1)), .bool (decide ((st l p).1 = 3)), .int .i64 0]) ∧ Below w.heap.size w w'
abbrev l3 : List St := [(3, 0), (3, 0), (3, 0)]
set_option maxHeartbeats 8000000 in
theorem alive_any (C : RelC) (w : World) : Calls Try.prog 11 #[] w fun e w' => e = .returned (.bool true) ∧ Below w.heap.size w w' := by
  obtain ⟨w1, hw1⟩ : ∃ W, W = w.alloc (.cells #[.int .i64 3, .int .i64 0] 36) := ⟨_, rfl⟩
  obtain ⟨w2, hw2⟩ : ∃ W, W = w1.alloc (.cells #[.int .i64 3, .int .i64 0, .int .i64 3, .int .i64 0, .int .i64 3, .int .i64 0] 36) := ⟨_, rfl⟩
  have b1 : Below w.heap.size w w1 := by rw [hw1]; exact (Below.refl _ _).alloc (Nat.le_refl _) _
  have b2 : Below w1.heap.size w1 w2 := by rw [hw2]; exact (Below.refl _ _).alloc (Nat.le_refl _) _
  have X1 := Lib.hid (show Bx w1 w.heap.size 36 #[.int .i64 3, .int .i64 0] by rw [hw1]; exact Bx.new _ _ _ rfl)
  have X2 : Bx w2 w1.heap.size 36 #[.int .i64 3, .int .i64 0, .int .i64 3, .int .i64 0, .int .i64 3, .int .i64 0] := by rw [hw2]; exact Bx.new _ _ _ rfl
  have R2 : RowP w2 (some ⟨w1.heap.size, 0, none⟩) l3.length 3 l3 := ⟨rfl, bx_sl X2 rfl (by intro c hc; simp at hc; subst hc; rfl), Nat.le_refl _, fun e => by cases e⟩
  have hc := Lib.hid (show Calls Try.prog 8 #[.slice (some ⟨w1.heap.size, 0, none⟩) 3 3, .int .i64 1, .int .i64 1, .int .i64 (-1)] w2 fun e w' => ∃ A' c', e = .returned (.tuple #[.slice A' 2 c', .int .i64 0]) ∧ RowI w' A' 2 c' [0, 2] ∧ Below w2.heap.size w2 w' from C.egress_ok (l := l3) (p := 1) (cl := 1) (o := -1) R2 (by decide) (by decide) (by decide))
  have B2 := Lib.hid (bt b1 b2)
  clear b2 b1 X2 R2
  go_enter Try.func11, Try.ntmps11
  go_upto_region 2 with fail
  rw [← hw1]
  have x0 := X1.out.c (i := 0) rfl
  have x1 := X1.out.c (i := 1) rfl
  have zz := X1.out.lt
  clear hw1
  go_wp2_with fail
  rw [← hw2]
  clear hw2 x0 x1 zz
  go_at_call 8
  (with_reducible refine hc.out.mono ?_)
  rintro e w3 ⟨A3, c3, rfl, r3, hb3⟩
  obtain ⟨w4, hw4⟩ : ∃ W, W = w3.alloc (.cells #[.int .i64 0, .int .i64 2] 3) := ⟨_, rfl⟩
  have b4 : Below w3.heap.size w3 w4 := by rw [hw4]; exact (Below.refl _ _).alloc (Nat.le_refl _) _
  have r4 := Lib.hid (show RowI w4 (some ⟨w3.heap.size, 0, none⟩) 2 2 [0, 2] by rw [hw4]; exact IntP.row_lit w3 #[.int .i64 0, .int .i64 2] [0, 2] 2 rfl rfl (by simp))
  have hs := Lib.hid (LruP.same_true (r3.below b4) r4.out rfl (by simp))
  have B4 := Lib.hid (bt (bt B2.out hb3) b4)
  clear r3 hb3 b4 B2
  go_wp2_with fail
  rw [← hw4]
  clear hw4
  go_at_call 12
  (with_reducible refine hs.out.mono ?_)
  rintro e w5 ⟨rfl, hb5⟩
  have B5 := Lib.hid (bt B4.out hb5)
  clear hb5
  go_wp2_with fail
  go_ret
  exact ⟨rfl, B5.out⟩
end Go.Proofs.Ytajihgpkaklgiaa.RelP
