/-
  Contracts of footwayref16's Same, and of footwaylaw16's alive.
-/
import Derived.Test.YtplgaenfcaphnaaTreeV
import Derived.Test.YtplgaenfcaphnaaTreeX
import Derived.BigRegion
namespace Go.Proofs.Ytplgaenfcaphnaa.LanP
open Go.RowKit Go.Sort Go.Proofs.Ytplgaenfcaphnaa.SliceP Go.Proofs.Ytplgaenfcaphnaa.BoxP
open Go.Proofs.Ytplgaenfcaphnaa.IntP (RowI SlI OwnI True1)
open Go.Proofs.Ytplgaenfcaphnaa.BoolP (RowB SlB OwnB)
open Go.Proofs.Ytplgaenfcaphnaa.MacP (arr_out)
set_option linter.unusedVariables false
set_option maxRecDepth 100000
theorem cell_below {w w' : World} {b i : Nat} {v : Value} (hb : Below w.heap.size w w') (h : b < w.heap.size) (hc : w.cell? ⟨b, i, none⟩ = some v) : w'.cell? ⟨b, i, none⟩ = some v := by
  have hh := hb.block b h
  unfold World.cell? at hc ⊢
  rwa [hh]
set_option maxHeartbeats 8000000 in
theorem s_same {A B : Option Addr} {n c m d : Nat} {ls : List (List Int)} {w : World} (hA : RowL ic w A n c ls) (hB : RowL ic w B m d ls) (h1 : ls.length ≤ 1000) (h2 : ∀ r ∈ ls, r.length ≤ 1000) :
    Calls Try.prog 15 #[.slice A n c, .slice B m d] w (True1 w) := by
  obtain rfl := hA.len
  have hm := hB.len
  subst hm
  have HA := Lib.hid hA
  have HB := Lib.hid hB
  have H2 := Lib.hid h2
  clear hA hB h2
  have hq : ((ls.length : Int) != (ls.length : Int)) = false := by simp
  go_enter Try.func15, Try.ntmps15
  go_wp2_with fail
  clear hq
  go_loopw [14] (fun i wr => ∃ k : Nat, k ≤ ls.length ∧ i = .int .i64 k ∧ Below w.heap.size w wr) (fun i _ => ls.length - (intOf i).toNat)
  case atStart => exact ⟨0, by omega, rfl, Below.refl _ _⟩
  case round =>
    obtain ⟨k, hk, rfl, hb⟩ := hrel
    by_cases hkn : k < ls.length
    · have hkl : (k : Int) < (ls.length : Int) := by omega
      obtain ⟨x, hx⟩ : ∃ x, ls[k]? = some x := ⟨_, List.getElem?_eq_getElem hkn⟩
      have hxl := H2.out x (List.mem_of_getElem? hx)
      obtain ⟨b1, o1, A1, c1, rfl, hb1, x0, R1⟩ := (HA.out.below hb).at_ hx
      obtain ⟨b2, o2, A2, c2, rfl, hb2, y0, R2⟩ := (HB.out.below hb).at_ hx
      replace hx := Lib.hid hx
      have hqq : ((x.length : Int) != (x.length : Int)) = false := by simp
      go_upto_region 6 with fail
      go_quiet (fail)
      obtain ⟨w8, hw8⟩ : ∃ W, W = wr.drewN nq := ⟨_, rfl⟩
      have bb8 : Below wr.heap.size wr w8 := by rw [hw8]; exact ⟨rfl, rfl, rfl, Nat.le_refl _, fun _ _ => rfl⟩
      rw [← hw8]
      have b8 := Lib.hid (bt hb bb8)
      have u0 := cell_below bb8 hb1 x0
      have v0 := cell_below bb8 hb2 y0
      have hb18 : b1 < w8.heap.size := Nat.lt_of_lt_of_le hb1 bb8.size
      have hb28 : b2 < w8.heap.size := Nat.lt_of_lt_of_le hb2 bb8.size
      have R18 := Lib.hid (R1.below bb8)
      have R28 := Lib.hid (R2.below bb8)
      clear hw8 hb bb8 x0 y0 hb1 hb2 R1 R2
      go_wp2_with fail
      clear hqq
      have U0 := Lib.hid u0
      have V0 := Lib.hid v0
      have HB1 := Lib.hid hb18
      have HB2 := Lib.hid hb28
      clear u0 v0 hb18 hb28
      go_loopw [33] (fun i wi => ∃ j : Nat, j ≤ x.length ∧ i = .int .i64 j ∧ Below w8.heap.size w8 wi) (fun i _ => x.length - (intOf i).toNat)
      case atStart => exact ⟨0, by omega, rfl, Below.refl _ _⟩
      case round =>
        obtain ⟨j, hj, rfl, hbi⟩ := hrel
        obtain ⟨wi, hwi⟩ : ∃ W, W = wr := ⟨_, rfl⟩
        subst hwi
        by_cases hjn : j < x.length
        · have hjl : (j : Int) < (x.length : Int) := by omega
          obtain ⟨y, hy⟩ : ∃ y, x[j]? = some y := ⟨_, List.getElem?_eq_getElem hjn⟩
          have u1 := cell_below hbi HB1.out U0.out
          have v1 := cell_below hbi HB2.out V0.out
          obtain ⟨b3, o3, hA3, hb3, x3⟩ := (R18.out.below hbi).iat hy
          obtain ⟨b4, o4, hA4, hb4, x4⟩ := (R28.out.below hbi).iat hy
          rw [hA3] at u1
          rw [hA4] at v1
          replace hA3 := Lib.hid hA3
          replace hA4 := Lib.hid hA4
          replace hy := Lib.hid hy
          have hqq : (y != y) = false := by simp
          go_upto_region 11 with fail
          go_quiet (fail)
          obtain ⟨w9, hw9⟩ : ∃ W, W = wi.drewN nq := ⟨_, rfl⟩
          have bb9 : Below wi.heap.size wi w9 := by rw [hw9]; exact ⟨rfl, rfl, rfl, Nat.le_refl _, fun _ _ => rfl⟩
          rw [← hw9]
          have b9 := Lib.hid (bt hbi bb9)
          clear hw9 hbi bb9 u1 v1 x3 x4 hb3 hb4
          go_wp2_with fail
          go_roundw
          case rel => exact ⟨j + 1, by omega, by go_num, b9.out⟩
          case measure => simp [intOf]; omega
        · obtain rfl : j = x.length := by omega
          have b9 := Lib.hid (bt b8.out hbi)
          clear hbi
          go_wp2_with fail
          go_roundw
          case rel => exact ⟨k + 1, by omega, by go_num, b9.out⟩
          case measure => simp [intOf]; omega
    · obtain rfl : k = ls.length := by omega
      replace hb := Lib.hid hb
      go_wp2_with fail
      go_ret
      exact ⟨rfl, hb.out⟩
end Go.Proofs.Ytplgaenfcaphnaa.LanP

/-
  Contract of footwaylaw16's alive.
-/
namespace Go.Proofs.Ytplgaenfcaphnaa.LanP
open Go.RowKit Go.Sort Go.Proofs.Ytplgaenfcaphnaa.SliceP Go.Proofs.Ytplgaenfcaphnaa.BoxP
open Go.Proofs.Ytplgaenfcaphnaa.IntP (RowI SlI OwnI True1)
open Go.Proofs.Ytplgaenfcaphnaa.BoolP (RowB SlB OwnB)
open Go.Proofs.Ytplgaenfcaphnaa.MacP (arr_out)
set_option linter.unusedVariables false
set_option maxRecDepth 100000
/-! Two bridges side by side. -/
def l9 : L := ⟨2, [⟨1, [⟨0, 1, true⟩, ⟨1, 1, true⟩]⟩, ⟨2, [⟨0, 1, true⟩, ⟨1, 1, true⟩]⟩], []⟩
theorem l9_ok : l9.ok = true := by kernel_rfl
theorem l9_roles : l9.roles = [[1, 1], [0, 2]] := by kernel_rfl
theorem l9_small : Small l9 := ⟨by decide, fun p hp => by simp [l9] at hp; rcases hp with rfl | rfl <;> decide, by decide⟩
abbrev k9 : List Lk := [⟨0, 1, true⟩, ⟨1, 1, true⟩]
theorem l9_row {w : World} {b g : Nat} (h1 : Bx w b 63 #[.int .i64 0, .int .i64 1, .bool true, .int .i64 1, .int .i64 1, .bool true]) (h2 : Bx w g 61 #[.int .i64 1, .slice (some ⟨b, 0, none⟩) 2 2, .int .i64 2, .slice (some ⟨b, 0, none⟩) 2 2]) :
    LanR w l9 (some ⟨g, 0, none⟩) 2 none 0 := by
  have hk : Row kc 3 w (some ⟨b, 0, none⟩) 2 2 k9 := ⟨rfl, bx_sl h1 rfl (fun c hc => by simp at hc; rcases hc with rfl | rfl <;> rfl), Nat.le_refl _, fun e => (by cases e), by omega⟩
  refine ⟨⟨rfl, by decide, fun e => (by cases e), by omega, [⟨⟨1, k9⟩, some ⟨b, 0, none⟩, 2⟩, ⟨⟨2, k9⟩, some ⟨b, 0, none⟩, 2⟩], rfl, bx_sl h2 rfl (fun c hc => by simp [PP.cells] at hc; rcases hc with rfl | rfl <;> rfl), fun x hx => ?_⟩, Row.zero w⟩
  simp only [List.mem_cons, List.not_mem_nil, or_false] at hx
  rcases hx with rfl | rfl <;> exact hk
theorem l9_rows {w : World} {b1 b2 g : Nat} (h1 : Bx w b1 3 #[.int .i64 1, .int .i64 1]) (h2 : Bx w b2 3 #[.int .i64 0, .int .i64 2]) (h3 : Bx w g 43 #[.slice (some ⟨b1, 0, none⟩) 2 2, .slice (some ⟨b2, 0, none⟩) 2 2]) :
    RowL ic w (some ⟨g, 0, none⟩) 2 2 ([[1, 1], [0, 2]] : List (List Int)) := by
  have r1 : Row ic 1 w (some ⟨b1, 0, none⟩) 2 2 ([1, 1] : List Int) := ⟨rfl, bx_sl h1 rfl (fun c hc => by simp at hc; subst hc; rfl), Nat.le_refl _, fun e => (by cases e), by omega⟩
  have r2 : Row ic 1 w (some ⟨b2, 0, none⟩) 2 2 ([0, 2] : List Int) := ⟨rfl, bx_sl h2 rfl (fun c hc => by simp at hc; rcases hc with rfl | rfl <;> rfl), Nat.le_refl _, fun e => (by cases e), by omega⟩
  refine ⟨rfl, by decide, fun e => (by cases e), by omega, [⟨[1, 1], some ⟨b1, 0, none⟩, 2⟩, ⟨[0, 2], some ⟨b2, 0, none⟩, 2⟩], rfl, bx_sl h3 rfl (fun c hc => by simp [RwP.cells] at hc; rcases hc with rfl | rfl <;> rfl), fun x hx => ?_⟩
  simp only [List.mem_cons, List.not_mem_nil, or_false] at hx
  rcases hx with rfl | rfl
  · exact r1
  · exact r2
set_option maxHeartbeats 8000000 in
theorem o_alive (w : World) : Calls Try.prog 13 #[] w (True1 w) := by
  obtain ⟨w1, hw1⟩ : ∃ W, W = w.alloc (.cells #[.int .i64 0, .int .i64 1, .bool true, .int .i64 1, .int .i64 1, .bool true] 63) := ⟨_, rfl⟩
  obtain ⟨w2, hw2⟩ : ∃ W, W = w1.alloc (.cells #[.int .i64 1, .slice (some ⟨w.heap.size, 0, none⟩) 2 2, .int .i64 2, .slice (some ⟨w.heap.size, 0, none⟩) 2 2] 61) := ⟨_, rfl⟩
  have b1 : Below w.heap.size w w1 := by rw [hw1]; exact (Below.refl _ _).alloc (Nat.le_refl _) _
  have b2 : Below w1.heap.size w1 w2 := by rw [hw2]; exact (Below.refl _ _).alloc (Nat.le_refl _) _
  have B2 := Lib.hid (bt b1 b2)
  have Y1 : Bx w1 w.heap.size 63 #[.int .i64 0, .int .i64 1, .bool true, .int .i64 1, .int .i64 1, .bool true] := by rw [hw1]; exact Bx.new _ _ _ rfl
  have hR := l9_row (w := w2) (b := w.heap.size) (g := w1.heap.size) (Y1.below b2) (by rw [hw2]; exact Bx.new _ _ _ rfl)
  have hC := o_roles_ok hR l9_small l9_ok
  rw [show lv l9 (some ⟨w1.heap.size, 0, none⟩) 2 none 0 = .agg #[.int .i64 2, .slice (some ⟨w1.heap.size, 0, none⟩) 2 2, .slice none 0 0] from rfl, l9_roles] at hC
  replace hC := Lib.hid hC
  clear b1 b2 Y1 hR
  go_enter Try.func13, Try.ntmps13
  go_upto_region 2 with fail
  rw [← hw1]
  clear hw1
  go_wp2_with fail
  rw [← hw2]
  clear hw2
  go_at_call 9
  (with_reducible refine hC.out.mono ?_)
  rintro e w3 ⟨A3, c3, rfl, r3, f3, hb3⟩
  replace r3 : RowL ic w3 A3 2 c3 ([[1, 1], [0, 2]] : List (List Int)) := r3
  have B3 := Lib.hid (bt B2.out hb3)
  clear hb3 f3
  obtain ⟨w4, hw4⟩ : ∃ W, W = w3.alloc (.cells #[.int .i64 1, .int .i64 1] 3) := ⟨_, rfl⟩
  have bb4 : Below w3.heap.size w3 w4 := by rw [hw4]; exact (Below.refl _ _).alloc (Nat.le_refl _) _
  obtain ⟨w5, hw5⟩ : ∃ W, W = w4.alloc (.cells #[.int .i64 0, .int .i64 2] 3) := ⟨_, rfl⟩
  have h4 : w4.heap.size = w3.heap.size + 1 := by rw [hw4]; simp
  have bb5 : Below w4.heap.size w4 w5 := by rw [hw5]; exact (Below.refl _ _).alloc (Nat.le_refl _) _
  obtain ⟨w6, hw6⟩ : ∃ W, W = w5.alloc (.cells #[.slice (some ⟨w3.heap.size, 0, none⟩) 2 2, .slice (some ⟨w3.heap.size + 1, 0, none⟩) 2 2] 43) := ⟨_, rfl⟩
  have h5 : w5.heap.size = w3.heap.size + 1 + 1 := by rw [hw5]; simp [h4]
  have bb6 : Below w5.heap.size w5 w6 := by rw [hw6]; exact (Below.refl _ _).alloc (Nat.le_refl _) _
  have hR6 := l9_rows (w := w6) (b1 := w3.heap.size) (b2 := w3.heap.size + 1) (g := w3.heap.size + 1 + 1) (((show Bx w4 w3.heap.size 3 #[.int .i64 1, .int .i64 1] by rw [hw4]; exact Bx.new _ _ _ rfl).below bb5).below bb6) ((show Bx w5 (w3.heap.size + 1) 3 #[.int .i64 0, .int .i64 2] by rw [hw5]; exact Bx.new _ _ _ h4).below bb6) (by rw [hw6]; exact Bx.new _ _ _ h5)
  have b36 := bt (bt bb4 bb5) bb6
  have B6 := Lib.hid (bt B3.out b36)
  have hS := Lib.hid (s_same (r3.below b36) hR6 (by decide) (by decide))
  clear bb4 bb5 bb6 b36 hR6 r3 h4 h5
  go_upto_region 3 with fail
  go_wp2_with fail
  rw [← hw4, ← hw5, ← hw6]
  clear hw4 hw5 hw6
  go_at_call 15
  (with_reducible refine hS.out.mono ?_)
  rintro e w7 ⟨rfl, hb7⟩
  have B7 := Lib.hid (bt B6.out hb7)
  clear hb7
  go_wp2_with fail
  go_ret
  exact ⟨rfl, B7.out⟩
end Go.Proofs.Ytplgaenfcaphnaa.LanP
