/-
  Contract of queue: Push, with room.
-/
import Derived.Test.YtimpngmmmoaejaaQueueD
import Derived.Deep.RegionWith
namespace Go.Proofs.Ytimpngmmmoaejaa.ChanP
open Go.RowKit Go.Sort Go.Conc Go.Proofs.Ytimpngmmmoaejaa.SliceP Go.Proofs.Ytimpngmmmoaejaa.BoxP Go.Proofs.Ytimpngmmmoaejaa.StrP
set_option linter.unusedVariables false
set_option maxRecDepth 100000

set_option maxHeartbeats 8000000 in
theorem q_push_room {A : Option Addr} {n c : Nat} {l : List ByteArray} (cap lost : Int) (s : ByteArray) {w : World} (ht : RowS w A n c l) (hs : l.length ≤ 100000) (hz : ∀ x ∈ l, x.size ≤ 1000000) (hsz : s.size ≤ 114) (hr : rightQ cap l lost = true) (hf : ((l.length : Int) == cap) = false) :
    Calls Try.prog 7 #[qv cap (.slice A n c) lost, .string s] w fun e w' => ∃ A' c', e = .returned (.tuple #[qv cap (.slice A' (l ++ [s]).length c') lost, .bool true, .int .i64 0]) ∧ OwnS w' w.heap.size (.slice A' (l ++ [s]).length c') (l ++ [s]) ∧ Below w.heap.size w w' := by
  obtain rfl := ht.len
  obtain ⟨w0, hw0⟩ : ∃ W, W = (w.alloc (qo cap (.slice A l.length c) lost)).alloc (qo 0 (.slice none 0 0) 0) := ⟨_, rfl⟩
  have B0 := Lib.hid (show Below w.heap.size w w0 by rw [hw0]; exact w2_below _ _ _ _ _ _)
  have Y := Lib.hid (show Bx w0 w.heap.size QT #[.int .i64 cap, .slice A l.length c, .int .i64 lost] by rw [hw0]; exact w2_y _ _ _ _ _ _)
  have X := Lib.hid (show Bx w0 (w.heap.size + 1) QT #[.int .i64 0, .slice none 0 0, .int .i64 0] by rw [hw0]; exact w2_x _ _ _ _ _ _)
  have R := q_right cap lost (ht.below B0.out) hs hz
  rw [hr] at R
  replace R := Lib.hid R
  have T := Lib.hid (ht.below B0.out)
  have hlong : ¬ (114 : Int) < s.size := by omega
  obtain ⟨y0, y1, y2⟩ := Bx.c3 Y.out
  have hyl := Y.out.lt
  have hS := Lib.hid hs
  clear ht hz hr hs hsz
  go_enter Try.func7, Try.ntmps7
  go_wp2_with fail
  rw [← hw0]
  clear hw0
  go_at_call 10
  (with_reducible refine R.out.mono ?_)
  rintro e w1 ⟨rfl, hb1⟩
  have B1 := Lib.hid (bt B0.out hb1)
  have X1 := Lib.hid (X.out.below hb1)
  have Y1 := Lib.hid (Y.out.below hb1)
  have L := Lib.hid (fun W (hB : Below w1.heap.size w1 W) => line_of cap lost (T.out.below (bt hb1 hB)) hS.out)
  have QO := Lib.hid (fun W b (Am : Option Addr) (hC : ChS W b l) (hM : RowS W Am 1 1 [s]) (hne : ∀ g o, Am = some ⟨g, o, none⟩ → g ≠ b) => queue_of cap lost (.slice A l.length c) hC hM hne hS.out (by simp))
  clear hb1 y0 y1 y2 hyl R Y X B0 T
  obtain ⟨y0, y1, y2⟩ := Bx.c3 Y1.out
  have hyl := Y1.out.lt
  have hxl1 := Lib.hid X1.out.lt
  go_wp2_with fail
  go_region_with (first
    | (go_at_call 20; (with_reducible refine (L.out _ (Below.refl _ _).drew).mono ?_); rintro e w2 ⟨b, rfl, hbb, hC, hB2⟩
       have b2 := Lib.hid (bt (show Below w1.heap.size w1 w1.drew from (Below.refl _ _).drew) hB2)
       obtain ⟨z0, z1, z2⟩ := Bx.c3 (Y1.out.below b2.out)
       have hyl2 := (Y1.out.below b2.out).lt
       have hbb' := Lib.hid (show w1.heap.size ≤ b from hbb)
       replace hC := Lib.hid hC
       clear hB2 hbb)
    | (go_at_call 20; (with_reducible refine (L.out _ ((Below.refl _ _).alloc (Nat.le_refl w1.heap.size) (.cells #[.string s] 9)).drew).mono ?_); rintro e w2 ⟨b, rfl, hbb, hC, hB2⟩
       have b2 := Lib.hid (bt (show Below w1.heap.size w1 (w1.alloc (.cells #[.string s] 9)).drew from ((Below.refl _ _).alloc (Nat.le_refl w1.heap.size) _).drew) hB2)
       obtain ⟨z0, z1, z2⟩ := Bx.c3 (Y1.out.below b2.out)
       have hyl2 := (Y1.out.below b2.out).lt
       have hbq : w1.heap.size + 1 ≤ b := by simpa using hbb
       have hbb' := Lib.hid (show w1.heap.size ≤ b by omega)
       have hM := Lib.hid (show RowS w2 (some ⟨w1.heap.size, 0, none⟩) 1 1 [s] from ⟨rfl, SlS.below (w := (w1.alloc (.cells #[.string s] 9)).drew) (sl_one w1 s w1.heap.size rfl) hB2, Nat.le_refl _, fun h => by cases h⟩)
       have hne := Lib.hid (show ∀ g o, some (⟨w1.heap.size, 0, none⟩ : Addr) = some ⟨g, o, none⟩ → g ≠ b from fun g o h => by injection h with h; injection h with h1 _ _; omega)
       replace hC := Lib.hid hC
       clear hB2 hbb hbq)
    | (go_at_call 19; (with_reducible refine (QO.out _ b (some ⟨w1.heap.size, 0, none⟩) hC.out hM.out hne.out).mono ?_); intro e w3 h3
       obtain ⟨A3, c3, rfl, T3, G3⟩ := h3
       have X2 := X1.out.below b2.out
       have X3 := Lib.hid (Bx.grownB X2 G3 (by have := hxl1.out; have := hbb'.out; omega))
       have B3 := Lib.hid (show Below w.heap.size w w3 from (bt B1.out b2.out).trans (gBelow G3 (by have := hyl; have := hbb'.out; omega) (bt B1.out b2.out).size))
       have hx2 := Lib.hid X2.lt
       replace T3 := Lib.hid T3
       clear X2 G3 hC z0 z1 z2 hyl2 hM hne
       obtain ⟨x0, x1, x2⟩ := Bx.c3 X3.out
       have f0 := X3.out.f 0
       have f1 := X3.out.f 1
       have f2 := X3.out.f 2
       have hxl := X3.out.lt
       obtain ⟨n3, hn3⟩ : ∃ n, n = (l ++ [s]).length := ⟨_, rfl⟩
       rw [← hn3]
       replace hn3 := Lib.hid hn3)
    | (go_at_call 19; (with_reducible refine (QO.out (w2.alloc (.cells #[.string s] 9)) b (some ⟨w2.heap.size, 0, none⟩) (hC.out.below ((Below.refl _ _).alloc (Nat.le_refl _) _)) ⟨rfl, sl_one w2 s w2.heap.size rfl, Nat.le_refl _, fun h => by cases h⟩ (fun g o h => by have := hC.out.lt; injection h with h; injection h with h1 _ _; omega)).mono ?_); intro e w3 h3
       obtain ⟨A3, c3, rfl, T3', G3'⟩ := h3
       have G3 : w2.grownBy w3 (some b) := gdown ((Below.refl _ _).alloc (Nat.le_refl _) (.cells #[.string s] 9)) G3'
       have T3 := Lib.hid (show OwnS w3 w2.heap.size (.slice A3 (l ++ [s]).length c3) (l ++ [s]) from T3'.base (by simp))
       have X2 := X1.out.below b2.out
       have X3 := Lib.hid (Bx.grownB X2 G3 (by have := hxl1.out; have := hbb'.out; omega))
       have B3 := Lib.hid (show Below w.heap.size w w3 from (bt B1.out b2.out).trans (gBelow G3 (by have := hyl; have := hbb'.out; omega) (bt B1.out b2.out).size))
       have hx2 := Lib.hid X2.lt
       clear X2 G3 G3' T3' hC z0 z1 z2 hyl2
       obtain ⟨x0, x1, x2⟩ := Bx.c3 X3.out
       have f0 := X3.out.f 0
       have f1 := X3.out.f 1
       have f2 := X3.out.f 2
       have hxl := X3.out.lt
       obtain ⟨n3, hn3⟩ : ∃ n, n = (l ++ [s]).length := ⟨_, rfl⟩
       rw [← hn3]
       replace hn3 := Lib.hid hn3))
  all_goals
    go_wp2_with fail
    refine bodyPost_ret (v := .tuple #[qv cap (.slice A3 n3 c3) lost, .bool true, .int .i64 0]) (by simp [results, Try.results7, go_sem, x0, x1, x2]) rfl ?_
    have TF := fun v1 v2 v3 => OwnS.set (OwnS.set (OwnS.set T3.out hx2.out 0 v1) hx2.out 1 v2) hx2.out 2 v3
    exact ⟨A3, c3, by rw [hn3.out], (TF _ _ _).base (bt B1.out b2.out).size, below3 B3.out (by omega) _ _ _⟩
end Go.Proofs.Ytimpngmmmoaejaa.ChanP
