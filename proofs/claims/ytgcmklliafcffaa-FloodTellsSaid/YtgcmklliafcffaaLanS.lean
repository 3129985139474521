/-
  Contracts of footwayref06.Same, footwayref15's Stations, Pairs, Hosts, twice, Right.
-/
import Derived.Test.YtgcmklliafcffaaLanR
import Derived.BigRegion
namespace Go.Proofs.Ytgcmklliafcffaa.LanP
open Go.RowKit Go.Sort Go.Proofs.Ytgcmklliafcffaa.SliceP Go.Proofs.Ytgcmklliafcffaa.BoxP
open Go.Proofs.Ytgcmklliafcffaa.IntP (RowI SlI OwnI)
open Go.Proofs.Ytgcmklliafcffaa.BoolP (RowB SlB OwnB)
open Go.Proofs.Ytgcmklliafcffaa.MacP (classI class_yes class_no ref_right_no ref_right_yes ref_class)
open Go.Proofs.Ytgcmklliafcffaa.LruP (hasI placeI has_more has_hit place_hit place_none place_geq has_true has_false)
set_option linter.unusedVariables false
set_option maxRecDepth 100000
theorem same_short {l m : List Int} {k : Nat} {x y : Int} (h1 : l[k]? = some x) (h2 : m[k]? = some y) (hne : x ≠ y) : l ≠ m := fun e => by rw [e, h2] at h1; exact hne (Option.some.inj h1).symm
set_option maxHeartbeats 4000000 in
theorem r_same {A B : Option Addr} {n c m d : Nat} {l l' : List Int} {w : World} (hA : Row ic 1 w A n c l) (hB : Row ic 1 w B m d l') (hl : l.length ≤ 1000) {b : Bool} (he : decide (l = l') = b) :
    Calls Try.prog 31 #[.slice A n c, .slice B m d] w fun e w' => e = .returned (.bool b) ∧ Below w.heap.size w w' := by
  obtain rfl := hA.len
  obtain rfl := hB.len
  have HA := Lib.hid hA
  have HB := Lib.hid hB
  clear hA hB
  replace he := Lib.hid he
  go_enter Try.func31, Try.ntmps31
  by_cases hln : l.length = l'.length
  · have hq : ((l.length : Int) != (l'.length : Int)) = false := by rw [hln]; simp
    have hln2 := Lib.hid hln
    go_wp2_with fail
    clear hq
    go_loopw [13] (fun i wr => ∃ k : Nat, k ≤ l.length ∧ i = .int .i64 k ∧ l.take k = l'.take k ∧ Below w.heap.size w wr) (fun i _ => l.length - (intOf i).toNat)
    case atStart => exact ⟨0, by omega, rfl, by simp, Below.refl _ _⟩
    case round =>
      obtain ⟨k, hk, rfl, hall, hb⟩ := hrel
      by_cases hkn : k < l.length
      · have hkl : (k : Int) < (l.length : Int) := by omega
        have hkl2 : (k : Int) < (l'.length : Int) := by omega
        obtain ⟨x, hx⟩ : ∃ x, l[k]? = some x := ⟨_, List.getElem?_eq_getElem hkn⟩
        obtain ⟨y, hy⟩ : ∃ y, l'[k]? = some y := ⟨_, List.getElem?_eq_getElem (by omega)⟩
        obtain ⟨b1, o1, rfl, hb1, x0⟩ := (HA.out.below hb).iat hx
        obtain ⟨b2, o2, rfl, hb2, y0⟩ := (HB.out.below hb).iat hy
        have hnx := Lib.hid (show x = y → l.take (k + 1) = l'.take (k + 1) from fun e => by rw [List.take_add_one, List.take_add_one, hall, hx, hy, e])
        have hno := Lib.hid (show x ≠ y → decide (l = l') = false from fun e => decide_eq_false (same_short hx hy e))
        replace hx := Lib.hid hx
        replace hy := Lib.hid hy
        replace hall := Lib.hid hall
        replace hln := Lib.hid hln
        go_upto_region 6 with fail
        go_quiet (fail)
        obtain ⟨w8, hw8⟩ : ∃ W, W = wr.drewN nq := ⟨_, rfl⟩
        have bb8 : Below wr.heap.size wr w8 := by rw [hw8]; exact ⟨rfl, rfl, rfl, Nat.le_refl _, fun _ _ => rfl⟩
        rw [← hw8]
        have b8 := Lib.hid (bt hb bb8)
        clear hw8 hb bb8 x0 y0 hb1 hb2
        by_cases hxy : x = y
        · have hs := Lib.hid (hnx.out hxy)
          have hqq : (x != y) = false := by rw [hxy]; simp
          replace hxy := Lib.hid hxy
          go_wp2_with fail
          go_roundw
          case rel => exact ⟨k + 1, by omega, by go_num, hs.out, b8.out⟩
          case measure => simp [intOf]; omega
        · have he2 := Lib.hid (he.out.symm.trans (hno.out hxy))
          have hqq : (x != y) = true := by simpa using hxy
          replace hxy := Lib.hid hxy
          clear he
          go_wp2_with fail
          go_ret
          exact ⟨by cases he2.out; rfl, b8.out⟩
      · obtain rfl : k = l.length := by omega
        rw [List.take_length, List.take_of_length_le (by omega)] at hall
        have he2 := Lib.hid (he.out.symm.trans (decide_eq_true hall))
        replace hb := Lib.hid hb
        have hn1 : ¬ ((l.length : Int) < (l'.length : Int)) := by omega
        replace hall := Lib.hid hall
        replace hln := Lib.hid hln
        clear he
        go_wp2_with fail
        go_ret
        exact ⟨by cases he2.out; rfl, hb.out⟩
  · have hq : ((l.length : Int) != (l'.length : Int)) = true := by rw [bne_iff_ne]; exact fun h => hln (by exact_mod_cast h)
    have he2 := Lib.hid (he.out.symm.trans (decide_eq_false (fun e => hln (by rw [e]))))
    replace hln := Lib.hid hln
    clear he
    go_wp2_with fail
    go_ret
    exact ⟨by cases he2.out; rfl, Below.refl _ _⟩
theorem neq_hh (x : Hs) (w : World) : (binOp .neq 82 (.agg #[.int .i64 x.1, .int .i64 x.2]) (.agg #[.int .i64 x.1, .int .i64 x.2])).run Try.prog w = .ok (.bool false) w := by go_simp
theorem und_arr : Try.prog.underlying 33 = some (.array 2 3) := by kernel_rfl
theorem eq_arr (a b : Int) (w : World) : (Op.equalIn 10000 33 (.agg #[.int .i64 a, .int .i64 b]) (.agg #[.int .i64 a, .int .i64 b])).run Try.prog w = .ok true w := by
  have h : ∀ x W, (Op.equalIn 9999 3 (.int .i64 x) (.int .i64 x)).run Try.prog W = .ok true W := fun x W => by go_simp
  show (Op.equalIn (9998 + 1 + 1) _ _ _).run _ _ = _
  rw [Op.equalIn]
  have hr : List.range' 0 2 = [0, 1] := rfl
  simp [run_underlying und_arr, h, part, go_sem, hr]
theorem neq_ee (x : Int × Int) (w : World) : (binOp .neq 33 (.agg #[.int .i64 x.1, .int .i64 x.2]) (.agg #[.int .i64 x.1, .int .i64 x.2])).run Try.prog w = .ok (.bool false) w := by
  go_simp
  rw [eq_arr]; rfl
set_option maxHeartbeats 8000000 in
theorem r_ports {l : L} {A : Option Addr} {c : Nat} {B : Option Addr} {d : Nat} {w : World} (hr : LanR w l A c B d) (hs' : Small l) (s : Int) : Calls Try.prog 79 #[lv l A c B d, .int .i64 s] w (Ret ec 33 2 w (portsOf l.plans s)) := by
  obtain ⟨w0, hw0, X0, R0, B0⟩ := new3 w hr
  have H := Lib.hid hr.plans
  have hl := hs'.plans
  have hp := Lib.hid hs'.ports
  replace X0 := Lib.hid X0
  replace B0 := Lib.hid B0
  clear hr hs' R0
  obtain ⟨w1, hw1⟩ : ∃ W, W = w0.alloc (.cells #[] 33) := ⟨_, rfl⟩
  have bb1 : Below w0.heap.size w0 w1 := by rw [hw1]; exact (Below.refl _ _).alloc (Nat.le_refl _) _
  have B1 := Lib.hid (bt B0.out bb1)
  have X1 := Lib.hid (X0.out.below bb1)
  obtain ⟨g1, hg1⟩ : ∃ g, g = w.heap.size + 1 := ⟨_, rfl⟩
  have O1 := Lib.hid (show Own w1 w.heap.size 33 2 (.slice (some ⟨g1, 0, none⟩) 0 0) [] by rw [hw1, hg1, show w.heap.size + 1 = w0.heap.size by rw [hw0]; simp]; exact (own_lit0 w0 _ _).base B0.out.size)
  clear bb1
  go_enter Try.func79, Try.ntmps79
  go_upto_region 2 with fail
  rw [← hw0, ← hw1, ← hg1]
  clear hw0 hw1
  replace hg1 := Lib.hid hg1
  have x1 := X1.out.c (i := 1) rfl
  have zz := X1.out.lt
  go_wp2_with fail
  clear x1 zz
  go_loopw [5, 14] (fun v i wr => ∃ (k : Nat) (L : List (Int × Int)), k ≤ l.plans.length ∧ i = .int .i64 k ∧ L = (List.range k).flatMap (portsRow l.plans s) ∧ L.length ≤ k * 10 ∧ Own wr w.heap.size 33 2 v (L.map ec) ∧ Below w.heap.size w wr) (fun _ i _ => l.plans.length - (intOf i).toNat)
  case atStart => exact ⟨0, [], by omega, rfl, rfl, by simp, O1.out, B1.out⟩
  case round =>
    obtain ⟨k, L, hk, rfl, hL, hlen, hown, hb⟩ := hrel
    obtain ⟨A3, c3, hv3⟩ := own_form hown
    subst hv3
    by_cases hkn : k < l.plans.length
    · have hkl : (k : Int) < (l.plans.length : Int) := by omega
      obtain ⟨x, hx⟩ : ∃ x, l.plans[k]? = some x := ⟨_, List.getElem?_eq_getElem hkn⟩
      obtain ⟨bS8, oS8, A8, c8, hAS8, hbS8, q8_0, q8_1, hrow8⟩ := RowP.at_ H.out hx
      subst hAS8
      replace q8_0 := (hb.cell (p := ⟨bS8, _, none⟩) hbS8).trans q8_0
      replace q8_1 := (hb.cell (p := ⟨bS8, _, none⟩) hbS8).trans q8_1
      replace hbS8 := Nat.lt_of_lt_of_le hbS8 hb.size
      obtain ⟨w8, hw8⟩ : ∃ W, W = wr.alloc (.cells #[.int .i64 x.id, .slice A8 x.ports.length c8] 60) := ⟨_, rfl⟩
      have bb8 : Below wr.heap.size wr w8 := by rw [hw8]; exact (Below.refl _ _).alloc (Nat.le_refl _) _
      have b8 := Lib.hid (bt hb bb8)
      have X8 := Lib.hid (show Bx w8 wr.heap.size 60 #[.int .i64 x.id, .slice A8 x.ports.length c8] by rw [hw8]; exact Bx.new _ _ _ rfl)
      have R8 := Lib.hid hrow8
      clear hrow8
      have hs := flat_succ (portsRow l.plans s) k
      rw [← hL, show portsRow l.plans s k = portsTo x s k x.ports.length by unfold portsRow; rw [hx]] at hs
      have hpx := hp.out x (List.mem_of_getElem? hx)
      have own8 := Lib.hid (hown.below bb8)
      replace hL := Lib.hid hL
      clear hown
      replace hx := Lib.hid hx
      clear hb bb8
      go_upto_region 5 with fail
      rw [← hw8]
      clear hw8 q8_0 q8_1 hbS8
      have o8_0 := X8.out.c (i := 0) rfl
      have o8_1 := X8.out.c (i := 1) rfl
      have zz8 := X8.out.lt
      replace hs := Lib.hid hs
      go_wp2_with fail
      clear o8_0 o8_1 zz8
      go_loopw [5, 22] (fun v i wi => ∃ (j : Nat) (L2 : List (Int × Int)), j ≤ x.ports.length ∧ i = .int .i64 j ∧ L2 = L ++ portsTo x s k j ∧ L2.length ≤ k * 10 + j ∧ Own wi w.heap.size 33 2 v (L2.map ec) ∧ Below w.heap.size w wi) (fun _ i _ => x.ports.length - (intOf i).toNat)
      case atStart => exact ⟨0, L, by omega, rfl, by unfold portsTo; simp, by omega, own8.out, b8.out⟩
      case round =>
        clear own8 b8
        obtain ⟨j, L2, hj, rfl, hL2, hlen2, hown, hb⟩ := hrel
        obtain ⟨A4, c4, hv4⟩ := own_form hown
        subst hv4
        have hlenL := Lib.hid (show L2.length ≤ 100000 by omega)
        by_cases hjn : j < x.ports.length
        · have hjl : (j : Int) < (x.ports.length : Int) := by omega
          obtain ⟨y, hy⟩ : ∃ y, x.ports[j]? = some y := ⟨_, List.getElem?_eq_getElem hjn⟩
          obtain ⟨bS7, oS7, hAS7, hbS7, q7_0, q7_1, q7_2⟩ := Row.kat (R8.out.below hb) hy
          subst hAS7
          obtain ⟨w7, hw7⟩ : ∃ W, W = wr.alloc (.cells #[.int .i64 y.seg, .int .i64 y.cost, .bool y.up] 57) := ⟨_, rfl⟩
          have bb7 : Below wr.heap.size wr w7 := by rw [hw7]; exact (Below.refl _ _).alloc (Nat.le_refl _) _
          have b7 := Lib.hid (bt hb bb7)
          have X7 := Lib.hid (show Bx w7 wr.heap.size 57 #[.int .i64 y.seg, .int .i64 y.cost, .bool y.up] by rw [hw7]; exact Bx.new _ _ _ rfl)
          have hs2 := flat_succ (portAt x s k) j
          rw [show portAt x s k j = if (y.up && y.seg == s) = true then [((k : Int), (j : Int))] else [] by unfold portAt; rw [hy]] at hs2
          have own7 := Lib.hid (hown.below bb7)
          clear hown
          replace hy := Lib.hid hy
          clear hb bb7
          go_upto_region 8 with fail
          rw [← hw7]
          clear hw7 q7_0 q7_1 q7_2 hbS7
          have o7_0 := X7.out.c (i := 0) rfl
          have o7_1 := X7.out.c (i := 1) rfl
          have o7_2 := X7.out.c (i := 2) rfl
          have zz7 := X7.out.lt
          cases hq1 : y.up
          · rw [hq1, Bool.false_and, if_neg (by simp), List.append_nil] at hs2
            rw [hq1] at o7_2
            have hs3 := Lib.hid (show L2 = L ++ portsTo x s k (j + 1) by rw [hL2]; unfold portsTo; rw [hs2])
            replace hL2 := Lib.hid hL2
            replace hq1 := Lib.hid hq1
            clear hs2
            go_wp2_with fail
            go_roundw
            case rel => exact ⟨j + 1, L2, by omega, by go_num, hs3.out, by omega, own7.out, b7.out⟩
            case measure => simp [intOf]; omega
          · rw [hq1, Bool.true_and] at hs2
            rw [hq1] at o7_2
            replace hq1 := Lib.hid hq1
            cases hq2 : (y.seg == s)
            · rw [hq2, if_neg (by simp), List.append_nil] at hs2
              have hs3 := Lib.hid (show L2 = L ++ portsTo x s k (j + 1) by rw [hL2]; unfold portsTo; rw [hs2])
              replace hL2 := Lib.hid hL2
              clear hs2
              go_wp2_with fail
              go_roundw
              case rel => exact ⟨j + 1, L2, by omega, by go_num, hs3.out, by omega, own7.out, b7.out⟩
              case measure => simp [intOf]; omega
            · rw [hq2, if_pos rfl] at hs2
              have hs3 := Lib.hid (show L2 ++ [((k : Int), (j : Int))] = L ++ portsTo x s k (j + 1) by rw [hL2]; unfold portsTo; rw [hs2, List.append_assoc])
              replace hL2 := Lib.hid hL2
              clear hs2
              obtain ⟨w9, hw9⟩ : ∃ W, W = w7.alloc (.cells #[.int .i64 k, .int .i64 j] 33) := ⟨_, rfl⟩
              have b9 : Below w7.heap.size w7 w9 := by rw [hw9]; exact (Below.refl _ _).alloc (Nat.le_refl _) _
              have hsl := Lib.hid (show Sl w9 2 (some ⟨w7.heap.size, 0, none⟩) ([((k : Int), (j : Int))].map ec) from bx_sl (T := 33) (vals := #[.int .i64 k, .int .i64 j]) (by rw [hw9]; exact Bx.new _ _ _ rfl) rfl (by intro c hc; simp at hc; subst hc; rfl))
              have own9 := Lib.hid (own7.out.below b9)
              have hb9 := Lib.hid (bt b7.out b9)
              have hn1 : Hid ((L2.map ec).length + ([((k : Int), (j : Int))].map ec).length ≤ 1000000) := Lib.hid (by rw [List.length_map]; have := hlenL.out; simp; omega)
              have hvl : Hid ((L2.map ec).length = L2.length) := Lib.hid (by rw [List.length_map])
              have hB2 : Hid (w.heap.size ≤ w9.heap.size) := Lib.hid hb9.out.size
              clear b9
              go_wp2_with (at_builtin; rw [← hw9]; (refine wpList_append_sl rfl (.tmp 35) (.tmp 39) 53 rfl elE (by rfl) own9.out (by rfl) (by rfl) hsl.out (wholeE _) (fun h => by cases h) hn1.out hB2.out ?_); intro v' w4 own1 grow1 _)
              have b4 : Below w.heap.size w w4 := hb9.out.grown grow1 hb9.out.size (fun j hj => (own9.out.lt j hj).1)
              go_roundw
              case rel => exact ⟨j + 1, L2 ++ [((k : Int), (j : Int))], by omega, by go_num, hs3.out, by rw [List.length_append]; simp; omega, own_snoc own1, b4⟩
              case measure => simp [intOf]; omega
        · obtain rfl : j = x.ports.length := by omega
          rw [← hs.out] at hL2
          replace hL2 := Lib.hid hL2
          replace hown := Lib.hid hown
          replace hb := Lib.hid hb
          go_wp2_with fail
          go_roundw
          case rel => exact ⟨k + 1, L2, by omega, by go_num, hL2.out, by omega, hown.out, hb.out⟩
          case measure => simp [intOf]; omega
    · obtain rfl : k = l.plans.length := by omega
      obtain rfl : L = portsOf l.plans s := hL
      replace hown := Lib.hid hown
      replace hb := Lib.hid hb
      go_wp2_with fail
      go_ret
      exact ⟨A3, c3, rfl, hown.out, hb.out⟩
end Go.Proofs.Ytgcmklliafcffaa.LanP
