/-
  Contracts of lan's countParts, Parts, Loops, Part, On.
-/
import Derived.Test.YtplgaenfcaphnaaLanH
import Derived.BigRegion
namespace Go.Proofs.Ytplgaenfcaphnaa.LanP
open Go.Proofs.Ytplgaenfcaphnaa.MacP (arr_out Wrote wp_region_ends outM)
open Go.RowKit Go.Sort Go.Proofs.Ytplgaenfcaphnaa.SliceP Go.Proofs.Ytplgaenfcaphnaa.BoxP
open Go.Proofs.Ytplgaenfcaphnaa.IntP (RowI SlI OwnI)
open Go.Proofs.Ytplgaenfcaphnaa.BoolP (RowB SlB OwnB)
open Go.Proofs.Ytplgaenfcaphnaa.MacP (classI class_yes class_no ref_right_no ref_right_yes ref_class)
open Go.Proofs.Ytplgaenfcaphnaa.LruP (hasI placeI has_more has_hit place_hit place_none place_geq has_true has_false)
set_option linter.unusedVariables false
set_option maxRecDepth 100000
theorem o_leasts8 {l : L} {A : Option Addr} {c : Nat} {B : Option Addr} {d : Nat} {w : World} (hr : LanR w l A c B d) (hs : Small l) (hf : l.fit) (h8 : l.n ≤ 8) {f : Nat → Int} (hl : labF l = f) :
    Calls Try.prog 39 #[lv l A c B d] w fun e w' => e = .returned (.agg #[.int .i64 (f 0), .int .i64 (f 1), .int .i64 (f 2), .int .i64 (f 3), .int .i64 (f 4), .int .i64 (f 5), .int .i64 (f 6), .int .i64 (f 7)]) ∧ Below w.heap.size w w' := by
  subst hl
  exact o_leasts hr hs hf h8
theorem ok_small8 {l : L} (h : l.ok = true) : l.n ≤ 8 := by have := ok_segs h; omega
theorem labF_at {l : L} {f : Nat → Int} (hl : labF l = f) {k : Nat} (hk : k < l.n) : f k = lab l.pairs k := by rw [← hl]; unfold labF; rw [if_pos hk]
set_option maxHeartbeats 8000000 in
theorem o_count {l : L} {A : Option Addr} {c : Nat} {B : Option Addr} {d : Nat} {w : World} (hr : LanR w l A c B d) (hs : Small l) (hf : l.fit) (h8 : l.n ≤ 8) {r : Int} (he : l.parts = r) :
    Calls Try.prog 37 #[lv l A c B d] w fun e w' => e = .returned (.int .i64 r) ∧ Below w.heap.size w w' := by
  have hn : (l.n : Int) = l.segs := by have := hf.1; unfold L.n; omega
  obtain ⟨w0, hw0, X0, R0, B0⟩ := new3 w hr
  obtain ⟨f, hF⟩ : ∃ f, labF l = f := ⟨_, rfl⟩
  have hC := Lib.hid (o_leasts8 R0 hs hf h8 hF)
  have hlab := Lib.hid fun k hk => labF_at (k := k) hF hk
  replace X0 := Lib.hid X0
  replace B0 := Lib.hid B0
  replace hF := Lib.hid hF
  replace hn := Lib.hid hn
  clear hr hs R0
  go_enter Try.func37, Try.ntmps37
  go_upto_region 1 with fail
  rw [← hw0]
  clear hw0
  have x0 := X0.out.c (i := 0) rfl
  have x1 := X0.out.c (i := 1) rfl
  have x2 := X0.out.c (i := 2) rfl
  have zz := X0.out.lt
  go_wp2_with fail
  go_at_call 39
  (with_reducible refine hC.out.mono ?_)
  rintro e w1 ⟨rfl, hb1⟩
  obtain ⟨w3, hw3⟩ : ∃ W, W = w1.alloc (.cells #[.int .i64 (f 0), .int .i64 (f 1), .int .i64 (f 2), .int .i64 (f 3), .int .i64 (f 4), .int .i64 (f 5), .int .i64 (f 6), .int .i64 (f 7)] 81) := ⟨_, rfl⟩
  have bb3 : Below w1.heap.size w1 w3 := by rw [hw3]; exact (Below.refl _ _).alloc (Nat.le_refl _) _
  have X3 := Lib.hid ((X0.out.below hb1).below bb3)
  have Z3 := Lib.hid (show Bx w3 w1.heap.size 81 (A8 f) by rw [hw3]; exact Bx.new _ _ _ rfl)
  have B3 := Lib.hid (bt (bt B0.out hb1) bb3)
  clear hb1 bb3 x0 x1 x2 zz
  go_upto_region 2 with fail
  rw [← hw3]
  clear hw3
  have x0 := X3.out.c (i := 0) rfl
  have zz := X3.out.lt
  go_wp2_with fail
  clear x0 zz
  go_loopw [4, 10] (fun v i wr => ∃ k : Nat, k ≤ l.n ∧ i = .int .i64 k ∧ v = .int .i64 (cnt (fun s => decide (lab l.pairs s = s)) k : Nat) ∧ Bx wr w1.heap.size 81 (A8 f) ∧ Below w.heap.size w wr) (fun _ i _ => l.n - (intOf i).toNat)
  case atStart => exact ⟨0, by omega, rfl, rfl, Z3.out, B3.out⟩
  case round =>
    clear Z3 B3
    obtain ⟨k, hk, rfl, rfl, hZ, hb⟩ := hrel
    have Z3 := Lib.hid hZ
    have B3 := Lib.hid hb
    clear hZ hb
    have hsn := hn.out
    by_cases hkn : k < l.n
    · have hkl : (k : Int) < l.segs := by omega
      have hk8 : (k : Int) < 8 := by omega
      have hcl := cnt_le (fun s => decide (lab l.pairs s = s)) k
      have ck := Z3.out.c (A8_get f (show k < 8 by omega))
      have z3 := Z3.out.lt
      have hnx : cnt (fun s => decide (lab l.pairs s = s)) (k + 1) = cnt (fun s => decide (lab l.pairs s = s)) k + if decide (lab l.pairs k = k) = true then 1 else 0 := rfl
      rw [← hlab.out k hkn] at hnx
      obtain ⟨q, hq⟩ : ∃ q, cnt (fun s => decide (lab l.pairs s = s)) k = q := ⟨_, rfl⟩
      rw [hq] at hnx hcl ⊢
      obtain ⟨u, hu⟩ : ∃ u, f k = u := ⟨_, rfl⟩
      rw [hu] at ck hnx
      replace hu := Lib.hid hu
      replace hq := Lib.hid hq
      by_cases huk : u = k
      · rw [if_pos (by simpa using huk)] at hnx
        have hqe : (u == (k : Int)) = true := by simpa using huk
        replace hnx := Lib.hid hnx
        replace huk := Lib.hid huk
        replace hsn := Lib.hid hsn
        go_wp2_with fail
        go_roundw
        case rel => exact ⟨k + 1, by omega, by go_num, by rw [hnx.out]; go_num, Z3.out, B3.out⟩
        case measure => simp [intOf]; omega
      · rw [if_neg (by simpa using huk)] at hnx
        have hqe : (u == (k : Int)) = false := by simpa using huk
        replace hnx := Lib.hid hnx
        replace huk := Lib.hid huk
        replace hsn := Lib.hid hsn
        go_wp2_with fail
        go_roundw
        case rel => exact ⟨k + 1, by omega, by go_num, by rw [hnx.out]; rfl, Z3.out, B3.out⟩
        case measure => simp [intOf]; omega
    · obtain rfl : k = l.n := by omega
      have he2 := Lib.hid (show ((cnt (fun s => decide (lab l.pairs s = s)) l.n : Nat) : Int) = r from he)
      have hkl : ¬ ((l.n : Int) < l.segs) := by omega
      replace hsn := Lib.hid hsn
      go_wp2_with fail
      go_ret
      exact ⟨by rw [he2.out]; rfl, B3.out⟩
end Go.Proofs.Ytplgaenfcaphnaa.LanP
