/-
  Contract of footwaylaw15's alive.
-/
import Derived.Test.YtoaabdejbipamaaLanX
namespace Go.Proofs.Ytoaabdejbipamaa.LanP
open Go.RowKit Go.Sort Go.Proofs.Ytoaabdejbipamaa.SliceP Go.Proofs.Ytoaabdejbipamaa.BoxP
set_option linter.unusedVariables false
set_option maxRecDepth 100000
def l9 : L := ⟨2, [⟨1, [⟨0, 1, true⟩, ⟨1, 1, true⟩]⟩, ⟨2, [⟨0, 1, true⟩, ⟨1, 1, true⟩]⟩], []⟩
theorem l9_ok : l9.ok = true := by kernel_rfl
theorem l9_loops : l9.loops = 1 := by kernel_rfl
theorem l9_small : Small l9 := ⟨by decide, fun p hp => by simp [l9] at hp; rcases hp with rfl | rfl <;> decide, by decide⟩
abbrev k9 : List Lk := [⟨0, 1, true⟩, ⟨1, 1, true⟩]
theorem l9_row {w : World} {b g : Nat} (h1 : Bx w b 51 #[.int .i64 0, .int .i64 1, .bool true, .int .i64 1, .int .i64 1, .bool true]) (h2 : Bx w g 49 #[.int .i64 1, .slice (some ⟨b, 0, none⟩) 2 2, .int .i64 2, .slice (some ⟨b, 0, none⟩) 2 2]) :
    LanR w l9 (some ⟨g, 0, none⟩) 2 none 0 := by
  have hk : Row kc 3 w (some ⟨b, 0, none⟩) 2 2 k9 := ⟨rfl, bx_sl h1 rfl (fun c hc => by simp at hc; rcases hc with rfl | rfl <;> rfl), Nat.le_refl _, fun e => (by cases e), by omega⟩
  refine ⟨⟨rfl, by decide, fun e => (by cases e), by omega, [⟨⟨1, k9⟩, some ⟨b, 0, none⟩, 2⟩, ⟨⟨2, k9⟩, some ⟨b, 0, none⟩, 2⟩], rfl, bx_sl h2 rfl (fun c hc => by simp [PP.cells] at hc; rcases hc with rfl | rfl <;> rfl), fun x hx => ?_⟩, Row.zero w⟩
  simp only [List.mem_cons, List.not_mem_nil, or_false] at hx
  rcases hx with rfl | rfl <;> exact hk
set_option maxHeartbeats 8000000 in
theorem o_alive (w : World) : Calls Try.prog 14 #[] w (True1 w) := by
  obtain ⟨w1, hw1⟩ : ∃ W, W = w.alloc (.cells #[.int .i64 0, .int .i64 1, .bool true, .int .i64 1, .int .i64 1, .bool true] 51) := ⟨_, rfl⟩
  obtain ⟨w2, hw2⟩ : ∃ W, W = w1.alloc (.cells #[.int .i64 1, .slice (some ⟨w.heap.size, 0, none⟩) 2 2, .int .i64 2, .slice (some ⟨w.heap.size, 0, none⟩) 2 2] 49) := ⟨_, rfl⟩
  have b1 : Below w.heap.size w w1 := by rw [hw1]; exact (Below.refl _ _).alloc (Nat.le_refl _) _
  have b2 : Below w1.heap.size w1 w2 := by rw [hw2]; exact (Below.refl _ _).alloc (Nat.le_refl _) _
  have B2 := Lib.hid (bt b1 b2)
  have Y1 : Bx w1 w.heap.size 51 #[.int .i64 0, .int .i64 1, .bool true, .int .i64 1, .int .i64 1, .bool true] := by rw [hw1]; exact Bx.new _ _ _ rfl
  have hR := l9_row (w := w2) (b := w.heap.size) (g := w1.heap.size) (Y1.below b2) (by rw [hw2]; exact Bx.new _ _ _ rfl)
  have hC := Lib.hid (show Calls Try.prog 11 #[.agg #[.int .i64 2, .slice (some ⟨w1.heap.size, 0, none⟩) 2 2, .slice none 0 0]] w2 _ from o_loops_ok hR l9_small l9_ok l9_loops)
  clear b1 b2 Y1 hR
  go_enter Try.func14, Try.ntmps14
  go_upto_region 2 with fail
  rw [← hw1]
  clear hw1
  go_wp2_with fail
  rw [← hw2]
  clear hw2
  go_at_call 11
  (with_reducible refine hC.out.mono ?_)
  rintro e w3 ⟨rfl, hb3⟩
  have B3 := Lib.hid (bt B2.out hb3)
  clear hb3
  go_wp2_with fail
  go_ret
  exact ⟨rfl, B3.out⟩
end Go.Proofs.Ytoaabdejbipamaa.LanP
