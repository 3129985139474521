/-
  The statements' alive.
-/
import Derived.Test.YtimpngmmmoaejaaQueueE
import Derived.Test.YtimpngmmmoaejaaQueueG
import Derived.Test.YtimpngmmmoaejaaInts
namespace Go.Proofs.Ytimpngmmmoaejaa.ChanP
open Go.RowKit Go.Sort Go.Conc Go.Proofs.Ytimpngmmmoaejaa.SliceP Go.Proofs.Ytimpngmmmoaejaa.BoxP Go.Proofs.Ytimpngmmmoaejaa.StrP
set_option linter.unusedVariables false
set_option maxRecDepth 100000

theorem right_1 : rightQ 1 [] 0 = true := by decide
theorem right_2 : rightQ 1 [⟨#[97]⟩] 0 = true := by decide
set_option maxHeartbeats 8000000 in
theorem alive_any (w : World) : Calls Try.prog 12 #[] w fun e w' => e = .returned (.bool true) ∧ Below w.heap.size w w' := by
  go_enter Try.func12, Try.ntmps12
  go_wp2_with fail
  go_at_call 6
  (with_reducible refine (q_new_yes 1 _ (by decide)).mono ?_)
  rintro e w1 ⟨rfl, b1⟩
  go_wp2_with fail
  obtain ⟨w2, hw2⟩ : ∃ W, W = w1.alloc (qo 1 (.slice none 0 0) 0) := ⟨_, rfl⟩
  rw [← hw2]
  have B2 := Lib.hid (show Below w.heap.size w w2 by rw [hw2]; exact b1.alloc b1.size _)
  have X2 := Lib.hid (show Bx w2 w1.heap.size QT #[.int .i64 1, .slice none 0 0, .int .i64 0] by rw [hw2]; exact Bx.new _ _ _ rfl)
  have hb := Lib.hid b1.size
  clear hw2 b1
  obtain ⟨x0, x1, x2⟩ := Bx.c3 X2.out
  go_at_call 7
  (with_reducible refine (q_push_room 1 0 ⟨#[97]⟩ (RowS.empty w2) (by simp) (fun x h => by simp at h) (by decide) right_1 (by decide)).mono ?_)
  rintro e w3 ⟨A3, c3, rfl, T3, b3⟩
  have X3 := X2.out.below b3
  have B3 := bt B2.out b3
  have hx2 := X2.out.lt
  obtain ⟨x0, x1, x2⟩ := Bx.c3 X3
  have hxl := X3.lt
  have f0 := X3.f 0
  have f1 := X3.f 1
  have f2 := X3.f 2
  replace T3 := Lib.hid T3
  replace X3 := Lib.hid X3
  replace B3 := Lib.hid B3
  replace hx2 := Lib.hid hx2
  clear X2 B2 b3
  go_wp2_with fail
  obtain ⟨w4, hw4⟩ : ∃ W, W = ((w3.setCell ⟨w1.heap.size, 0, none⟩ (.int .i64 1)).setCell ⟨w1.heap.size, 1, none⟩ (.slice A3 1 c3)).setCell ⟨w1.heap.size, 2, none⟩ (.int .i64 0) := ⟨_, rfl⟩
  rw [← hw4]
  have T4 := Lib.hid (show OwnS w4 w2.heap.size (.slice A3 1 c3) [⟨#[97]⟩] by rw [hw4]; exact OwnS.set (OwnS.set (OwnS.set T3.out hx2.out 0 _) hx2.out 1 _) hx2.out 2 _)
  have X4 := Lib.hid (show Bx w4 w1.heap.size QT #[.int .i64 1, .slice A3 1 c3, .int .i64 0] by rw [hw4]; exact X3.out.three)
  have B4 := Lib.hid (show Below w.heap.size w w4 by rw [hw4]; exact below3 B3.out hb.out _ _ _)
  clear hw4 x0 x1 x2 f0 f1 f2 hxl T3 X3 B3
  obtain ⟨x0, x1, x2⟩ := Bx.c3 X4.out
  go_at_call 7
  (with_reducible refine (q_push_full 1 0 ⟨#[98]⟩ (own_row T4.out) (by simp) (fun x h => by simp at h; subst h; decide) (by decide) right_2 (by decide)).mono ?_)
  rintro e w5 ⟨A5, c5, rfl, T5, b5⟩
  have X5 := X4.out.below b5
  have B5 := Lib.hid (bt B4.out b5)
  obtain ⟨x0, x1, x2⟩ := Bx.c3 X5
  have hxl := X5.lt
  have f0 := X5.f 0
  have f1 := X5.f 1
  have f2 := X5.f 2
  clear T5 T4 X4 B4 b5
  replace X5 := Lib.hid X5
  go_wp2_with fail
  go_ret
  exact ⟨rfl, below3 B5.out hb.out _ _ _⟩
end Go.Proofs.Ytimpngmmmoaejaa.ChanP
