/-
  Contracts of lan's Loops, Part, On.
-/
import Derived.Test.YtplgaenfcaphnaaLanI
import Derived.BigRegion
namespace Go.Proofs.Ytplgaenfcaphnaa.LanP
open Go.Proofs.Ytplgaenfcaphnaa.MacP (arr_out Wrote wp_region_ends outM)
open Go.RowKit Go.Sort Go.Proofs.Ytplgaenfcaphnaa.SliceP Go.Proofs.Ytplgaenfcaphnaa.BoxP
open Go.Proofs.Ytplgaenfcaphnaa.IntP (RowI SlI OwnI)
open Go.Proofs.Ytplgaenfcaphnaa.BoolP (RowB SlB OwnB)
open Go.Proofs.Ytplgaenfcaphnaa.MacP (classI class_yes class_no ref_right_no ref_right_yes ref_class)
open Go.Proofs.Ytplgaenfcaphnaa.LruP (hasI placeI has_more has_hit place_hit place_none place_geq has_true has_false)
set_option linter.unusedVariables false
set_option maxRecDepth 100000
set_option maxHeartbeats 4000000 in
theorem o_loops_no {l : L} {A : Option Addr} {c : Nat} {B : Option Addr} {d : Nat} {w : World} (hr : LanR w l A c B d) (hs : Small l) (he : l.ok = false) :
    Calls Try.prog 20 #[lv l A c B d] w fun e w' => e = .returned (.tuple #[.int .i64 0, .int .i64 1]) ∧ Below w.heap.size w w' := by
  obtain ⟨w0, hw0, X0, R0, B0⟩ := new3 w hr
  have hR := Lib.hid (o_right R0 hs he)
  replace X0 := Lib.hid X0
  replace B0 := Lib.hid B0
  clear hr hs R0
  go_enter Try.func20, Try.ntmps20
  go_upto_region 1 with fail
  rw [← hw0]
  clear hw0
  have x0 := X0.out.c (i := 0) rfl
  have x1 := X0.out.c (i := 1) rfl
  have x2 := X0.out.c (i := 2) rfl
  have zz := X0.out.lt
  go_wp2_with fail
  go_at_call 27
  (with_reducible refine hR.out.mono ?_)
  rintro e w1 ⟨rfl, hb1⟩
  have B1 := Lib.hid (bt B0.out hb1)
  clear hb1 x0 x1 x2 zz
  go_wp2_with fail
  go_ret2
  exact ⟨rfl, B1.out⟩
def upsTo (l : List P) : Int := (l.map fun p => ((ups p).length : Int)).sum
def brTo (l : List P) : Int := ((l.map fun p => (min (ups p).length 1 : Nat) : List Nat).map Int.ofNat).sum
theorem upsTo_succ {l : List P} {k : Nat} {p : P} (h : l[k]? = some p) : upsTo (l.take (k + 1)) = upsTo (l.take k) + (ups p).length := by
  unfold upsTo; rw [List.take_add_one, h, List.map_append, List.sum_append]; simp
theorem brTo_succ {l : List P} {k : Nat} {p : P} (h : l[k]? = some p) : brTo (l.take (k + 1)) = brTo (l.take k) + (min (ups p).length 1 : Nat) := by
  unfold brTo; rw [List.take_add_one, h, List.map_append, List.map_append, List.sum_append]; simp
theorem upsTo_bd {l : List P} (h : ∀ p ∈ l, p.ports.length ≤ 10) : ∀ k, 0 ≤ upsTo (l.take k) ∧ upsTo (l.take k) ≤ k * 10
  | 0 => by simp [upsTo]
  | k + 1 => by
    have ih := upsTo_bd h k
    cases hk : l[k]? with
    | none => rw [List.take_of_length_le (by have := List.getElem?_eq_none_iff.1 hk; omega)]; rw [List.take_of_length_le (by have := List.getElem?_eq_none_iff.1 hk; omega)] at ih; omega
    | some p =>
      rw [upsTo_succ hk]
      have := h p (List.mem_of_getElem? hk)
      have := ups_len p
      omega
theorem brTo_bd (l : List P) : ∀ k, 0 ≤ brTo (l.take k) ∧ brTo (l.take k) ≤ k
  | 0 => by simp [brTo]
  | k + 1 => by
    have ih := brTo_bd l k
    cases hk : l[k]? with
    | none => rw [List.take_of_length_le (by have := List.getElem?_eq_none_iff.1 hk; omega)]; rw [List.take_of_length_le (by have := List.getElem?_eq_none_iff.1 hk; omega)] at ih; omega
    | some p => rw [brTo_succ hk]; omega
set_option maxHeartbeats 8000000 in
theorem o_loops_ok {l : L} {A : Option Addr} {c : Nat} {B : Option Addr} {d : Nat} {w : World} (hr : LanR w l A c B d) (hs : Small l) (he : l.ok = true) {r : Int} (h : l.loops = r) :
    Calls Try.prog 20 #[lv l A c B d] w fun e w' => e = .returned (.tuple #[.int .i64 r, .int .i64 0]) ∧ Below w.heap.size w w' := by
  obtain ⟨q, hq⟩ : ∃ q, l.parts = q := ⟨_, rfl⟩
  have hqb : 0 ≤ q ∧ q ≤ 8 := by have := parts_le l.pairs l.n; have := ok_small8 he; rw [← hq]; unfold L.parts; omega
  have hsg := ok_segs he
  have H := Lib.hid hr.plans
  have HS := Lib.hid hs
  obtain ⟨w0, hw0, X0, R0, B0⟩ := new3 w hr
  have hR := Lib.hid (o_right R0 hs he)
  have hC := Lib.hid (fun W (hW : Below w0.heap.size w0 W) => o_count (R0.below hW) hs (ok_fit he) (ok_small8 he) hq)
  unfold L.loops at h
  rw [hq] at h
  replace h := Lib.hid h
  replace hq := Lib.hid hq
  replace he := Lib.hid he
  replace X0 := Lib.hid X0
  replace B0 := Lib.hid B0
  clear hr hs R0
  go_enter Try.func20, Try.ntmps20
  go_upto_region 1 with fail
  rw [← hw0]
  clear hw0
  have x0 := X0.out.c (i := 0) rfl
  have x1 := X0.out.c (i := 1) rfl
  have x2 := X0.out.c (i := 2) rfl
  have zz := X0.out.lt
  go_wp2_with fail
  go_at_call 27
  (with_reducible refine hR.out.mono ?_)
  rintro e w1 ⟨rfl, hb1⟩
  have hC1 := Lib.hid (fun W (hW : Below w1.heap.size w1 W) => hC.out W (bt hb1 hW))
  have B1 := Lib.hid (bt B0.out hb1)
  have X1 := Lib.hid (X0.out.below hb1)
  clear hb1 x0 x1 x2 zz hC
  have x0 := X1.out.c (i := 0) rfl
  have x1 := X1.out.c (i := 1) rfl
  have x2 := X1.out.c (i := 2) rfl
  have zz := X1.out.lt
  go_wp2_with fail
  clear x0 x1 x2 zz
  go_loopw [4, 5, 15] (fun u v i wr => ∃ k : Nat, k ≤ l.plans.length ∧ i = .int .i64 k ∧ u = .int .i64 (upsTo (l.plans.take k)) ∧ v = .int .i64 (brTo (l.plans.take k)) ∧ Below w1.heap.size w1 wr) (fun _ _ i _ => l.plans.length - (intOf i).toNat)
  case atStart => exact ⟨0, by omega, rfl, rfl, rfl, Below.refl _ _⟩
  case round =>
    obtain ⟨k, hk, rfl, rfl, rfl, hb⟩ := hrel
    have hl8 := HS.out.plans
    have hbu := upsTo_bd HS.out.ports k
    have hbb := brTo_bd l.plans k
    by_cases hkn : k < l.plans.length
    · have hkl : (k : Int) < (l.plans.length : Int) := by omega
      have H1 := Lib.hid (H.out.below B1.out)
      obtain ⟨x, hx⟩ : ∃ x, l.plans[k]? = some x := ⟨_, List.getElem?_eq_getElem hkn⟩
      obtain ⟨bS8, oS8, A8, c8, hAS8, hbS8, q8_0, q8_1, hrow8⟩ := RowP.at_ (H1.out.below hb) hx
      subst hAS8
      obtain ⟨w8, hw8⟩ : ∃ W, W = wr.alloc (.cells #[.int .i64 x.id, .slice A8 x.ports.length c8] 61) := ⟨_, rfl⟩
      have bb8 : Below wr.heap.size wr w8 := by rw [hw8]; exact (Below.refl _ _).alloc (Nat.le_refl _) _
      have b8 := Lib.hid (bt hb bb8)
      have X8 := Lib.hid (show Bx w8 wr.heap.size 61 #[.int .i64 x.id, .slice A8 x.ports.length c8] by rw [hw8]; exact Bx.new _ _ _ rfl)
      have R8 := Lib.hid (hrow8.below bb8)
      clear hrow8
      have hs1 := upsTo_succ hx
      have hs2 := brTo_succ hx
      have hpx := HS.out.ports x (List.mem_of_getElem? hx)
      replace hx := Lib.hid hx
      clear hb bb8
      go_upto_region 7 with fail
      rw [← hw8]
      clear hw8 q8_0 q8_1 hbS8
      have o8_0 := X8.out.c (i := 0) rfl
      have o8_1 := X8.out.c (i := 1) rfl
      have zz8 := X8.out.lt
      have hC := Lib.hid (o_segsof R8.out (by omega))
      have hul := ups_len x
      obtain ⟨u, hu⟩ : ∃ u, ups x = u := ⟨_, rfl⟩
      rw [hu] at hC hs1 hs2 hul
      replace hu := Lib.hid hu
      obtain ⟨a, ha⟩ : ∃ a, upsTo (l.plans.take k) = a := ⟨_, rfl⟩
      obtain ⟨b, hb'⟩ : ∃ b, brTo (l.plans.take k) = b := ⟨_, rfl⟩
      rw [ha] at hs1 hbu ⊢
      rw [hb'] at hs2 hbb ⊢
      replace ha := Lib.hid ha
      replace hb' := Lib.hid hb'
      replace hs1 := Lib.hid hs1
      replace hs2 := Lib.hid hs2
      go_wp2_with fail
      go_at_call 36
      (with_reducible refine hC.out.mono ?_)
      rintro e w10 ⟨A5, c5, rfl, ou, hb10⟩
      have b10 := Lib.hid (bt b8.out hb10)
      have hm1 : (if (1 : Int) < (u.length : Int) then (1 : Int) else (u.length : Int)) = ((min u.length 1 : Nat) : Int) := by split <;> omega
      have hm2 : min (u.length : Int) 1 = ((min u.length 1 : Nat) : Int) := by omega
      clear o8_0 o8_1 zz8 hb10 ou b8 hC
      obtain ⟨m, hm⟩ : ∃ m, min u.length 1 = m := ⟨_, rfl⟩
      have hmb : m ≤ 1 := by omega
      rw [hm] at hm1 hm2 hs2
      replace hm := Lib.hid hm
      go_wp2_with fail
      go_roundw
      case rel => exact ⟨k + 1, by omega, by go_num, by rw [hs1.out], by rw [hs2.out], b10.out⟩
      case measure => simp [intOf]; omega
    · obtain rfl : k = l.plans.length := by omega
      rw [List.take_length] at hbu hbb ⊢
      have hfin := Lib.hid (show upsTo l.plans + q - l.segs - brTo l.plans = r from h.out)
      obtain ⟨a, ha⟩ : ∃ a, upsTo l.plans = a := ⟨_, rfl⟩
      obtain ⟨b, hb'⟩ : ∃ b, brTo l.plans = b := ⟨_, rfl⟩
      rw [ha] at hfin hbu ⊢
      rw [hb'] at hfin hbb ⊢
      replace ha := Lib.hid ha
      replace hb' := Lib.hid hb'
      have hCw := Lib.hid (hC1.out wr hb)
      have hC2 := Lib.hid (fun W (hW : Below wr.heap.size wr W) => hC1.out W (bt hb hW))
      have Bw := Lib.hid (bt B1.out hb)
      have Xw := Lib.hid (X1.out.below hb)
      clear hb
      go_upto_region 11 with fail
      have zz := Xw.out.lt
      have K_X_0 := cell_regrown (Xw.out.c (i := 0) rfl)
      have K_X_1 := cell_regrown (Xw.out.c (i := 1) rfl)
      have K_X_2 := cell_regrown (Xw.out.c (i := 2) rfl)
      have cC0 := fun (d : Nat) (os : Array Obj) => Calls.regrown_of (hC2.out (Go.Sort.grow (redrawn wr d) os) (below_regrown wr d os))
      refine wp_region_quiet_below (by kernel_rfl) (by kernel_rfl) ?_
      repeat (first | go_big_quiet_step (with_reducible exact cC0 _ _) | quiet_step (with_reducible exact cC0 _ _))
      refine wpQuiet_nil ?_
      intro _ hw'
      obtain ⟨⟨dq, osq⟩, hw''⟩ := hw'
      subst hw''
      have hqw51 := below_regrown wr dq osq
      clear K_X_0 K_X_1 K_X_2 cC0
      generalize Go.Sort.grow (redrawn wr dq) osq = w51 at *
      have X_w51 := Lib.hid (Xw.out.below hqw51)
      clear Xw
      have Bf := Lib.hid (bt Bw.out hqw51)
      clear hqw51
      go_wp2_with fail
      go_ret2
      exact ⟨by rw [← hfin.out]; rfl, Bf.out⟩
end Go.Proofs.Ytplgaenfcaphnaa.LanP
