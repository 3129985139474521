/-
  Contracts of footwayref15's Parts, Loops.
-/
import Derived.Test.YtoaabdejbipamaaLanV
import Derived.BigRegion
namespace Go.Proofs.Ytoaabdejbipamaa.LanP
open Go.RowKit Go.Sort Go.Proofs.Ytoaabdejbipamaa.SliceP Go.Proofs.Ytoaabdejbipamaa.BoxP
open Go.Proofs.Ytoaabdejbipamaa.IntP (RowI SlI OwnI)
open Go.Proofs.Ytoaabdejbipamaa.BoolP (RowB SlB OwnB)
open Go.Proofs.Ytoaabdejbipamaa.MacP (classI class_yes class_no ref_right_no ref_right_yes ref_class)
open Go.Proofs.Ytoaabdejbipamaa.LruP (hasI placeI has_more has_hit place_hit place_none place_geq has_true has_false ref_has_is)
set_option linter.unusedVariables false
set_option maxRecDepth 100000
set_option maxHeartbeats 8000000 in
theorem r_parts {l : L} {A : Option Addr} {c : Nat} {B : Option Addr} {d : Nat} {w : World} (hr : LanR w l A c B d) (hs : Small l) (hf : l.fit) (h8 : l.n ≤ 8) {r : Int} (he : l.parts = r) :
    Calls Try.prog 15 #[lv l A c B d] w fun e w' => e = .returned (.int .i64 r) ∧ Below w.heap.size w w' := by
  have hn : (l.n : Int) = l.segs := by have := hf.1; unfold L.n; omega
  have H := Lib.hid hr
  have HS := Lib.hid hs
  obtain ⟨w0, hw0, X0, R0, B0⟩ := new3 w hr
  replace X0 := Lib.hid X0
  replace B0 := Lib.hid B0
  clear hr hs R0
  go_enter Try.func15, Try.ntmps15
  go_upto_region 1 with fail
  rw [← hw0]
  clear hw0
  have x0 := X0.out.c (i := 0) rfl
  have x1 := X0.out.c (i := 1) rfl
  have x2 := X0.out.c (i := 2) rfl
  have zz := X0.out.lt
  clear x0 x1 x2 zz
  go_wp2_with fail
  go_loopw [3, 4] (fun v i wr => ∃ k : Nat, k ≤ l.n ∧ i = .int .i64 k ∧ v = .int .i64 (cnt (fun s => decide (lab l.pairs s = s)) k : Nat) ∧ Bx wr w.heap.size 25 #[.int .i64 l.segs, .slice A l.plans.length c, .slice B l.hosts.length d] ∧ Below w.heap.size w wr) (fun _ i _ => l.n - (intOf i).toNat)
  case atStart => exact ⟨0, by omega, rfl, rfl, X0.out, B0.out⟩
  case round =>
    clear X0 B0
    obtain ⟨k, hk, rfl, rfl, hX, hb⟩ := hrel
    have x0 := hX.c (i := 0) rfl
    have x1 := hX.c (i := 1) rfl
    have x2 := hX.c (i := 2) rfl
    have zz := hX.lt
    by_cases hkn : k < l.n
    · have hkl : (k : Int) < l.segs := by omega
      have hcl := cnt_le (fun s => decide (lab l.pairs s = s)) k
      have hnx : cnt (fun s => decide (lab l.pairs s = s)) (k + 1) = cnt (fun s => decide (lab l.pairs s = s)) k + if decide (lab l.pairs k = k) = true then 1 else 0 := rfl
      obtain ⟨q, hq⟩ : ∃ q, cnt (fun s => decide (lab l.pairs s = s)) k = q := ⟨_, rfl⟩
      rw [hq] at hnx hcl ⊢
      have hhd := part_head hf (s := (k : Int)) (by omega) (by omega)
      have hP := Lib.hid (r_part (H.out.below hb) HS.out hf h8 hkn)
      obtain ⟨u, hu⟩ : ∃ u, lab l.pairs (k : Int) = u := ⟨_, rfl⟩
      rw [hu] at hnx hhd
      replace hu := Lib.hid hu
      replace hq := Lib.hid hq
      have hlen : 0 < (l.part k).length := by
        cases hp : l.part k with
        | nil => rw [hp] at hhd; simp at hhd
        | cons a b => simp
      obtain ⟨m, hm⟩ : ∃ m, l.part (k : Int) = m := ⟨_, rfl⟩
      rw [hm] at hhd hlen hP
      have hlen2 : (0 : Int) < (m.length : Int) := by omega
      replace hm := Lib.hid hm
      have X8 := Lib.hid hX
      have b8 := Lib.hid hb
      clear hX hb
      replace hn := Lib.hid hn
      go_wp2_with fail
      go_at_call 22
      (with_reducible refine hP.out.mono ?_)
      rintro e w2 ⟨A6, c6, rfl, o6, hb2⟩
      have R6 := Row.own o6 (by decide)
      obtain ⟨b9, o9, rfl, hlt9, y0⟩ := R6.iat hhd
      rw [Nat.add_zero] at y0
      have X2 := Lib.hid (X8.out.below hb2)
      have b2 := Lib.hid (bt b8.out hb2)
      replace hhd := Lib.hid hhd
      clear hb2 o6 x0 x1 x2 zz R6
      by_cases huk : u = k
      · rw [if_pos (by simpa using huk)] at hnx
        have hqe : (u == (k : Int)) = true := by simpa using huk
        replace hnx := Lib.hid hnx
        replace huk := Lib.hid huk
        go_wp2_with fail
        go_roundw
        case rel => exact ⟨k + 1, by omega, by go_num, by rw [hnx.out]; go_num, X2.out, b2.out⟩
        case measure => simp [intOf]; omega
      · rw [if_neg (by simpa using huk)] at hnx
        have hqe : (u == (k : Int)) = false := by simpa using huk
        replace hnx := Lib.hid hnx
        replace huk := Lib.hid huk
        go_wp2_with fail
        go_roundw
        case rel => exact ⟨k + 1, by omega, by go_num, by rw [hnx.out]; rfl, X2.out, b2.out⟩
        case measure => simp [intOf]; omega
    · obtain rfl : k = l.n := by omega
      have he2 := Lib.hid (show ((cnt (fun s => decide (lab l.pairs s = s)) l.n : Nat) : Int) = r from he)
      have hkl : ¬ ((l.n : Int) < l.segs) := by omega
      replace hb := Lib.hid hb
      replace hX := Lib.hid hX
      go_wp2_with fail
      go_ret
      exact ⟨by rw [he2.out]; rfl, hb.out⟩
set_option maxHeartbeats 16000000 in
theorem r_loops {l : L} {A : Option Addr} {c : Nat} {B : Option Addr} {d : Nat} {w : World} (hr : LanR w l A c B d) (hs : Small l) (hf : l.fit) (h8 : l.n ≤ 8) {r : Int} (he : l.loops = r) :
    Calls Try.prog 16 #[lv l A c B d] w fun e w' => e = .returned (.int .i64 r) ∧ Below w.heap.size w w' := by
  obtain ⟨q, hq⟩ : ∃ q, l.parts = q := ⟨_, rfl⟩
  have hqb : 0 ≤ q ∧ q ≤ 8 := by have := parts_le l.pairs l.n; rw [← hq]; unfold L.parts; omega
  have hsg : 0 ≤ l.segs ∧ l.segs ≤ 8 := by have := hf.1; unfold L.n at h8; omega
  have hfin := Lib.hid (show q - l.segs + upsTo l.plans - brTo l.plans = r by rw [← he, ← hq]; unfold L.loops L.upsN L.brN upsTo brTo; omega)
  have H := Lib.hid hr
  have HS := Lib.hid hs
  obtain ⟨w0, hw0, X0, R0, B0⟩ := new3 w hr
  replace X0 := Lib.hid X0
  replace B0 := Lib.hid B0
  have hC := Lib.hid (fun W (hW : Below w0.heap.size w0 W) => r_parts (R0.below hW) hs hf h8 hq)
  replace hq := Lib.hid hq
  clear hr hs R0 he
  go_enter Try.func16, Try.ntmps16
  go_upto_region 1 with fail
  rw [← hw0]
  clear hw0
  have zz := X0.out.lt
  have K_X_0 := cell_regrown (X0.out.c (i := 0) rfl)
  have K_X_1 := cell_regrown (X0.out.c (i := 1) rfl)
  have K_X_2 := cell_regrown (X0.out.c (i := 2) rfl)
  have cC0 := fun (d : Nat) (os : Array Obj) => Calls.regrown_of (hC.out (Go.Sort.grow (redrawn w0 d) os) (below_regrown w0 d os))
  refine wp_region_quiet_below (by kernel_rfl) (by kernel_rfl) ?_
  repeat (first | go_big_quiet_step (with_reducible exact cC0 _ _) | quiet_step (with_reducible exact cC0 _ _))
  refine wpQuiet_nil ?_
  intro _ hw'
  obtain ⟨⟨dq, osq⟩, hw''⟩ := hw'
  subst hw''
  have hqw61 := below_regrown w0 dq osq
  clear K_X_0 K_X_1 K_X_2 cC0
  generalize Go.Sort.grow (redrawn w0 dq) osq = w61 at *
  have X_w61 := Lib.hid (X0.out.below hqw61)
  clear X0
  have B1 := Lib.hid (bt B0.out hqw61)
  clear hqw61 B0 hC zz
  have x1 := X_w61.out.c (i := 1) rfl
  have zz := X_w61.out.lt
  go_wp2_with fail
  clear x1 zz
  go_loopw [3, 17] (fun u i wr => ∃ k : Nat, k ≤ l.plans.length ∧ i = .int .i64 k ∧ u = .int .i64 (q - l.segs + upsTo (l.plans.take k) - brTo (l.plans.take k)) ∧ Below w.heap.size w wr) (fun _ i _ => l.plans.length - (intOf i).toNat)
  case atStart => exact ⟨0, by omega, rfl, by simp [upsTo, brTo], B1.out⟩
  case round =>
    clear B1
    obtain ⟨k, hk, rfl, rfl, hb⟩ := hrel
    have hl8 := HS.out.plans
    have hbu := upsTo_bd HS.out.ports k
    have hbb := brTo_bd l.plans k
    by_cases hkn : k < l.plans.length
    · have hkl : (k : Int) < (l.plans.length : Int) := by omega
      obtain ⟨wo, hwo⟩ : ∃ W, W = wr := ⟨_, rfl⟩
      subst hwo
      have H1 := Lib.hid H.out.plans
      obtain ⟨x, hx⟩ : ∃ x, l.plans[k]? = some x := ⟨_, List.getElem?_eq_getElem hkn⟩
      obtain ⟨bS8, oS8, A8, c8, hAS8, hbS8, q8_0, q8_1, hrow8⟩ := RowP.at_ H1.out hx
      subst hAS8
      replace q8_0 := (hb.cell (p := ⟨bS8, _, none⟩) hbS8).trans q8_0
      replace q8_1 := (hb.cell (p := ⟨bS8, _, none⟩) hbS8).trans q8_1
      replace hbS8 := Nat.lt_of_lt_of_le hbS8 hb.size
      obtain ⟨w8, hw8⟩ : ∃ W, W = wo.alloc (.cells #[.int .i64 x.id, .slice A8 x.ports.length c8] 49) := ⟨_, rfl⟩
      have bb8 : Below wo.heap.size wo w8 := by rw [hw8]; exact (Below.refl _ _).alloc (Nat.le_refl _) _
      have b8 := Lib.hid (bt hb bb8)
      have X8 := Lib.hid (show Bx w8 wo.heap.size 49 #[.int .i64 x.id, .slice A8 x.ports.length c8] by rw [hw8]; exact Bx.new _ _ _ rfl)
      have R8 := Lib.hid hrow8
      clear hrow8
      have hs1 := upsTo_succ hx
      have hs2 := brTo_succ hx
      have hpx := HS.out.ports x (List.mem_of_getElem? hx)
      replace hx := Lib.hid hx
      clear hb bb8
      go_upto_region 5 with fail
      rw [← hw8]
      clear hw8 q8_0 q8_1 hbS8
      have o8_0 := X8.out.c (i := 0) rfl
      have o8_1 := X8.out.c (i := 1) rfl
      have zz8 := X8.out.lt
      have hul := ups_len x
      have hux : (ups x).length = (x.ports.filter Lk.up).length := by unfold ups; rw [List.length_map]
      obtain ⟨a, ha⟩ : ∃ a, upsTo (l.plans.take k) = a := ⟨_, rfl⟩
      obtain ⟨b, hb'⟩ : ∃ b, brTo (l.plans.take k) = b := ⟨_, rfl⟩
      rw [ha] at hs1 hbu ⊢
      rw [hb'] at hs2 hbb ⊢
      replace ha := Lib.hid ha
      replace hb' := Lib.hid hb'
      go_wp2_with fail
      clear o8_0 o8_1 zz8
      go_loopw [6, 24] (fun u i wr => ∃ j : Nat, j ≤ x.ports.length ∧ i = .int .i64 j ∧ u = .int .i64 (((x.ports.take j).filter Lk.up).length : Nat) ∧ Below w.heap.size w wr) (fun _ i _ => x.ports.length - (intOf i).toNat)
      case atStart => exact ⟨0, by omega, rfl, rfl, b8.out⟩
      case round =>
        clear b8 X8
        obtain ⟨j, hj, rfl, rfl, hb⟩ := hrel
        have hfl := List.length_filter_le Lk.up (x.ports.take j)
        rw [List.length_take] at hfl
        by_cases hjn : j < x.ports.length
        · have hjl : (j : Int) < (x.ports.length : Int) := by omega
          obtain ⟨y, hy⟩ : ∃ y, x.ports[j]? = some y := ⟨_, List.getElem?_eq_getElem hjn⟩
          obtain ⟨bS7, oS7, hAS7, hbS7, q7_0, q7_1, q7_2⟩ := Row.kat (R8.out.below hb) hy
          subst hAS7
          obtain ⟨w7, hw7⟩ : ∃ W, W = wr.alloc (.cells #[.int .i64 y.seg, .int .i64 y.cost, .bool y.up] 51) := ⟨_, rfl⟩
          have bb7 : Below wr.heap.size wr w7 := by rw [hw7]; exact (Below.refl _ _).alloc (Nat.le_refl _) _
          have b7 := Lib.hid (bt hb bb7)
          have X7 := Lib.hid (show Bx w7 wr.heap.size 51 #[.int .i64 y.seg, .int .i64 y.cost, .bool y.up] by rw [hw7]; exact Bx.new _ _ _ rfl)
          have hst := filter_succ Lk.up hy
          replace hy := Lib.hid hy
          clear hb bb7
          go_upto_region 9 with fail
          rw [← hw7]
          clear hw7 q7_0 q7_1 q7_2 hbS7
          have o7_0 := X7.out.c (i := 0) rfl
          have o7_1 := X7.out.c (i := 1) rfl
          have o7_2 := X7.out.c (i := 2) rfl
          have zz7 := X7.out.lt
          obtain ⟨m, hm⟩ : ∃ m, ((x.ports.take j).filter Lk.up).length = m := ⟨_, rfl⟩
          have hst2 : ((x.ports.take (j + 1)).filter Lk.up).length = m + if y.up = true then 1 else 0 := by rw [hst, List.length_append, hm]; split <;> rfl
          rw [hm] at hfl ⊢
          replace hm := Lib.hid hm
          replace hst := Lib.hid hst
          cases hq1 : y.up
          · rw [hq1, if_neg (by simp)] at hst2
            rw [hq1] at o7_2
            replace hq1 := Lib.hid hq1
            replace hst2 := Lib.hid hst2
            go_wp2_with fail
            go_roundw
            case rel => exact ⟨j + 1, by omega, by go_num, by rw [hst2.out]; rfl, b7.out⟩
            case measure => simp [intOf]; omega
          · rw [hq1, if_pos rfl] at hst2
            rw [hq1] at o7_2
            replace hq1 := Lib.hid hq1
            replace hst2 := Lib.hid hst2
            go_wp2_with fail
            go_roundw
            case rel => exact ⟨j + 1, by omega, by go_num, by rw [hst2.out]; go_num, b7.out⟩
            case measure => simp [intOf]; omega
        · obtain rfl : j = x.ports.length := by omega
          rw [List.take_length] at hfl ⊢
          rw [← hux] at hfl ⊢
          obtain ⟨u, hu⟩ : ∃ u, (ups x).length = u := ⟨_, rfl⟩
          rw [hu] at hfl hs1 hs2 ⊢
          have hm1 : (if (1 : Int) < (u : Int) then (1 : Int) else (u : Int)) = ((min u 1 : Nat) : Int) := by split <;> omega
          have hm2 : min (u : Int) 1 = ((min u 1 : Nat) : Int) := by omega
          obtain ⟨m, hm⟩ : ∃ m, min u 1 = m := ⟨_, rfl⟩
          have hmb : m ≤ 1 := by omega
          rw [hm] at hm1 hm2 hs2
          have hsum := Lib.hid (show q - l.segs + upsTo (l.plans.take (k + 1)) - brTo (l.plans.take (k + 1)) = q - l.segs + a - b + u - m by rw [hs1, hs2]; omega)
          replace hm := Lib.hid hm
          replace hu := Lib.hid hu
          replace hux := Lib.hid hux
          replace hs1 := Lib.hid hs1
          replace hs2 := Lib.hid hs2
          replace hb := Lib.hid hb
          go_wp2_with fail
          go_roundw
          case rel => exact ⟨k + 1, by omega, by go_num, by rw [hsum.out], hb.out⟩
          case measure => simp [intOf]; omega
    · obtain rfl : k = l.plans.length := by omega
      rw [List.take_length, hfin.out]
      replace hb := Lib.hid hb
      clear hbu hbb
      go_wp2_with fail
      go_ret
      exact ⟨rfl, hb.out⟩
end Go.Proofs.Ytoaabdejbipamaa.LanP
