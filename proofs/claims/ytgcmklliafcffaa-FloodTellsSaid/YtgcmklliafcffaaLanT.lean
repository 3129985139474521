/-
  Contracts of footwayref15's twice, Right.
-/
import Derived.Test.YtgcmklliafcffaaLanS
import Derived.BigRegion
namespace Go.Proofs.Ytgcmklliafcffaa.LanP
open Go.RowKit Go.Sort Go.Proofs.Ytgcmklliafcffaa.SliceP Go.Proofs.Ytgcmklliafcffaa.BoxP
open Go.Proofs.Ytgcmklliafcffaa.IntP (RowI SlI OwnI)
open Go.Proofs.Ytgcmklliafcffaa.BoolP (RowB SlB OwnB)
open Go.Proofs.Ytgcmklliafcffaa.MacP (classI class_yes class_no ref_right_no ref_right_yes ref_class)
open Go.Proofs.Ytgcmklliafcffaa.LruP (hasI placeI has_more has_hit place_hit place_none place_geq has_true has_false)
set_option linter.unusedVariables false
set_option maxRecDepth 100000
set_option maxHeartbeats 16000000 in
theorem r_twice {l : L} {A : Option Addr} {c : Nat} {B : Option Addr} {d : Nat} {w : World} (hr : LanR w l A c B d) (hs : Small l) {b : Bool} (he : (twins l.ids || twins l.macs) = b) :
    Calls Try.prog 42 #[lv l A c B d] w fun e w' => e = .returned (.bool b) ∧ Below w.heap.size w w' := by
  have HP := Lib.hid hr.plans
  have HH := Lib.hid hr.hosts
  have hs1 := hs.plans
  have hs2 := hs.hosts
  replace he := Lib.hid he
  obtain ⟨w0, hw0, X0, R0, B0⟩ := new3 w hr
  replace X0 := Lib.hid X0
  replace B0 := Lib.hid B0
  clear hr hs R0
  go_enter Try.func42, Try.ntmps42
  go_upto_region 1 with fail
  rw [← hw0]
  clear hw0
  have x0 := X0.out.c (i := 0) rfl
  have x1 := X0.out.c (i := 1) rfl
  have x2 := X0.out.c (i := 2) rfl
  have zz := X0.out.lt
  go_wp2_with fail
  clear x0 x1 x2 zz
  go_loopw [10] (fun i wr => ∃ k : Nat, k ≤ l.plans.length ∧ i = .int .i64 k ∧ (List.range k).any (twin l.ids) = false ∧ Bx wr w.heap.size 25 #[.int .i64 l.segs, .slice A l.plans.length c, .slice B l.hosts.length d] ∧ Below w.heap.size w wr) (fun i _ => l.plans.length - (intOf i).toNat)
  case atStart => exact ⟨0, by omega, rfl, rfl, X0.out, B0.out⟩
  case round =>
    clear B0 X0
    obtain ⟨k, hk, rfl, htw, hX, hb⟩ := hrel
    by_cases hkn : k < l.plans.length
    · have hkl : (k : Int) < (l.plans.length : Int) := by omega
      obtain ⟨x, hx⟩ : ∃ x, l.plans[k]? = some x := ⟨_, List.getElem?_eq_getElem hkn⟩
      have htd : twin l.ids k = hasI ((l.ids).take k) x.id := by
        unfold twin hasI L.ids
        rw [List.getD_eq_getElem?_getD, List.getElem?_map, hx]; rfl
      have htg := Lib.hid fun h => range_more (f := twin l.ids) htw h
      have htb := Lib.hid (show twin l.ids k = true → twins l.ids = true from fun h => List.any_eq_true.2 ⟨k, List.mem_range.2 (by unfold L.ids; rw [List.length_map]; exact hkn), h⟩)
      replace htd := Lib.hid htd
      replace hx := Lib.hid hx
      have X0 := Lib.hid hX
      have B0 := Lib.hid hb
      clear hX hb htw
      go_wp2_with fail
      obtain ⟨wo, hwo⟩ : ∃ W, W = wr := ⟨_, rfl⟩
      subst hwo
      go_loopw [4] (fun i wr => ∃ j : Nat, j ≤ k ∧ i = .int .i64 j ∧ hasI ((l.ids).take j) x.id = false ∧ Bx wr w.heap.size 25 #[.int .i64 l.segs, .slice A l.plans.length c, .slice B l.hosts.length d] ∧ Below w.heap.size w wr) (fun i _ => k - (intOf i).toNat)
      case atStart => exact ⟨0, by omega, rfl, rfl, X0.out, B0.out⟩
      case round =>
        clear B0 X0
        obtain ⟨j, hj, rfl, hno, hX, hb⟩ := hrel
        by_cases hjk : j < k
        · have hjl : (j : Int) < (k : Int) := by omega
          have hjl2 : (j : Int) < (l.plans.length : Int) := by omega
          obtain ⟨y, hy⟩ : ∃ y, l.plans[j]? = some y := ⟨_, List.getElem?_eq_getElem (by omega)⟩
          have hy2 : l.ids[j]? = some y.id := by unfold L.ids; rw [List.getElem?_map, hy]; rfl
          obtain ⟨b1, o1, A1, c1, hA1, hb1, x0, x1, r1⟩ := RowP.at_ (HP.out.below hb) hx.out
          obtain ⟨b2, o2, A2, c2, hA2, hb2, y0, y1, r2⟩ := RowP.at_ (HP.out.below hb) hy
          rw [hA1] at hA2
          injection hA2 with hA2
          injection hA2 with e1 e2 e3
          subst e1; subst e2
          rw [hA1] at hX
          have z0 := hX.c (i := 1) rfl
          have zz := hX.lt
          replace hA1 := Lib.hid hA1
          have hX2 := Lib.hid hX
          replace hy := Lib.hid hy
          clear r1 r2 x1 y1
          go_upto_region 7 with fail
          go_quiet (fail)
          obtain ⟨w8, hw8⟩ : ∃ W, W = wr.drewN nq := ⟨_, rfl⟩
          have bb8 : Below wr.heap.size wr w8 := by rw [hw8]; exact ⟨rfl, rfl, rfl, Nat.le_refl _, fun _ _ => rfl⟩
          rw [← hw8]
          have b8 := Lib.hid (bt hb bb8)
          have X8 := Lib.hid (show Bx w8 w.heap.size 25 #[.int .i64 l.segs, .slice A l.plans.length c, .slice B l.hosts.length d] by have := hX2.out.below bb8; rw [← hA1.out] at this; exact this)
          clear hw8 hb bb8 x0 y0 z0 zz hb1 hb2 hX hX2
          cases hq : (x.id == y.id)
          · have hs2 := Lib.hid (has_more hno hy2 (by rw [LruP.beq_swap]; exact hq))
            replace hno := Lib.hid hno
            replace hy2 := Lib.hid hy2
            go_wp2_with fail
            go_roundw
            case rel => exact ⟨j + 1, by omega, by go_num, hs2.out, X8.out, b8.out⟩
            case measure => simp [intOf]; omega
          · have hhit := Lib.hid (show hasI ((l.ids).take k) x.id = true from has_true.2 (List.mem_of_getElem? (i := j) (by rw [List.getElem?_take, if_pos hjk, hy2, eq_of_beq hq])))
            have he2 := Lib.hid (show b = true by rw [← he.out, htb.out (htd.out.trans hhit.out)]; simp)
            replace hno := Lib.hid hno
            replace hy2 := Lib.hid hy2
            clear he
            go_wp2_with fail
            go_ret
            exact ⟨by cases he2.out; rfl, b8.out⟩
        · obtain rfl : j = k := by omega
          have hs3 := Lib.hid (htg.out (htd.out.trans hno))
          replace hno := Lib.hid hno
          have X8 := Lib.hid hX
          have b8 := Lib.hid hb
          clear hX hb
          go_wp2_with fail
          go_roundw
          case rel => exact ⟨j + 1, by omega, by go_num, hs3.out, X8.out, b8.out⟩
          case measure => simp [intOf]; omega
    · obtain rfl : k = l.plans.length := by omega
      have htp := Lib.hid (show twins l.ids = false by unfold twins; unfold L.ids at htw ⊢; rw [List.length_map]; exact htw)
      have X0 := Lib.hid hX
      have B0 := Lib.hid hb
      have z2 := X0.out.c (i := 2) rfl
      have zz := X0.out.lt
      clear hX hb htw
      go_wp2_with fail
      clear z2 zz
      go_loopw [35] (fun i wr => ∃ k : Nat, k ≤ l.hosts.length ∧ i = .int .i64 k ∧ (List.range k).any (twin l.macs) = false ∧ Bx wr w.heap.size 25 #[.int .i64 l.segs, .slice A l.plans.length c, .slice B l.hosts.length d] ∧ Below w.heap.size w wr) (fun i _ => l.hosts.length - (intOf i).toNat)
      case atStart => exact ⟨0, by omega, rfl, rfl, X0.out, B0.out⟩
      case round =>
        clear B0 X0
        obtain ⟨k, hk, rfl, htw, hX, hb⟩ := hrel
        by_cases hkn : k < l.hosts.length
        · have hkl : (k : Int) < (l.hosts.length : Int) := by omega
          obtain ⟨x, hx⟩ : ∃ x, l.hosts[k]? = some x := ⟨_, List.getElem?_eq_getElem hkn⟩
          have htd : twin l.macs k = hasI ((l.macs).take k) x.1 := by
            unfold twin hasI L.macs
            rw [List.getD_eq_getElem?_getD, List.getElem?_map, hx]; rfl
          have htg := Lib.hid fun h => range_more (f := twin l.macs) htw h
          have htb := Lib.hid (show twin l.macs k = true → twins l.macs = true from fun h => List.any_eq_true.2 ⟨k, List.mem_range.2 (by unfold L.macs; rw [List.length_map]; exact hkn), h⟩)
          replace htd := Lib.hid htd
          replace hx := Lib.hid hx
          have X0 := Lib.hid hX
          have B0 := Lib.hid hb
          clear hX hb htw
          go_wp2_with fail
          obtain ⟨wo, hwo⟩ : ∃ W, W = wr := ⟨_, rfl⟩
          subst hwo
          go_loopw [6] (fun i wr => ∃ j : Nat, j ≤ k ∧ i = .int .i64 j ∧ hasI ((l.macs).take j) x.1 = false ∧ Bx wr w.heap.size 25 #[.int .i64 l.segs, .slice A l.plans.length c, .slice B l.hosts.length d] ∧ Below w.heap.size w wr) (fun i _ => k - (intOf i).toNat)
          case atStart => exact ⟨0, by omega, rfl, rfl, X0.out, B0.out⟩
          case round =>
            clear B0 X0
            obtain ⟨j, hj, rfl, hno, hX, hb⟩ := hrel
            by_cases hjk : j < k
            · have hjl : (j : Int) < (k : Int) := by omega
              have hjl2 : (j : Int) < (l.hosts.length : Int) := by omega
              obtain ⟨y, hy⟩ : ∃ y, l.hosts[j]? = some y := ⟨_, List.getElem?_eq_getElem (by omega)⟩
              have hy2 : l.macs[j]? = some y.1 := by unfold L.macs; rw [List.getElem?_map, hy]; rfl
              obtain ⟨b1, o1, hA1, hb1, x0, x1⟩ := Row.hat (HH.out.below hb) hx.out
              obtain ⟨b2, o2, hA2, hb2, y0, y1⟩ := Row.hat (HH.out.below hb) hy
              rw [hA1] at hA2
              injection hA2 with hA2
              injection hA2 with e1 e2 e3
              subst e1; subst e2
              rw [hA1] at hX
              have z0 := hX.c (i := 2) rfl
              have zz := hX.lt
              replace hA1 := Lib.hid hA1
              have hX2 := Lib.hid hX
              replace hy := Lib.hid hy
              clear x1 y1
              go_upto_region 16 with fail
              go_quiet (fail)
              obtain ⟨w8, hw8⟩ : ∃ W, W = wr.drewN nq := ⟨_, rfl⟩
              have bb8 : Below wr.heap.size wr w8 := by rw [hw8]; exact ⟨rfl, rfl, rfl, Nat.le_refl _, fun _ _ => rfl⟩
              rw [← hw8]
              have b8 := Lib.hid (bt hb bb8)
              have X8 := Lib.hid (show Bx w8 w.heap.size 25 #[.int .i64 l.segs, .slice A l.plans.length c, .slice B l.hosts.length d] by have := hX2.out.below bb8; rw [← hA1.out] at this; exact this)
              clear hw8 hb bb8 x0 y0 z0 zz hb1 hb2 hX hX2
              cases hq : (x.1 == y.1)
              · have hs2 := Lib.hid (has_more hno hy2 (by rw [LruP.beq_swap]; exact hq))
                replace hno := Lib.hid hno
                replace hy2 := Lib.hid hy2
                go_wp2_with fail
                go_roundw
                case rel => exact ⟨j + 1, by omega, by go_num, hs2.out, X8.out, b8.out⟩
                case measure => simp [intOf]; omega
              · have hhit := Lib.hid (show hasI ((l.macs).take k) x.1 = true from has_true.2 (List.mem_of_getElem? (i := j) (by rw [List.getElem?_take, if_pos hjk, hy2, eq_of_beq hq])))
                have he2 := Lib.hid (show b = true by rw [← he.out, htb.out (htd.out.trans hhit.out)]; simp)
                replace hno := Lib.hid hno
                replace hy2 := Lib.hid hy2
                clear he
                go_wp2_with fail
                go_ret
                exact ⟨by cases he2.out; rfl, b8.out⟩
            · obtain rfl : j = k := by omega
              have hs3 := Lib.hid (htg.out (htd.out.trans hno))
              replace hno := Lib.hid hno
              have X8 := Lib.hid hX
              have b8 := Lib.hid hb
              clear hX hb
              go_wp2_with fail
              go_roundw
              case rel => exact ⟨j + 1, by omega, by go_num, hs3.out, X8.out, b8.out⟩
              case measure => simp [intOf]; omega
        · obtain rfl : k = l.hosts.length := by omega
          have hth := Lib.hid (show twins l.macs = false by unfold twins; unfold L.macs at htw ⊢; rw [List.length_map]; exact htw)
          have X0 := Lib.hid hX
          have B0 := Lib.hid hb
          have z2 := X0.out.c (i := 2) rfl
          have zz := X0.out.lt
          clear hX hb htw
          have he2 := Lib.hid (show b = false by rw [← he.out, htp.out, hth.out]; rfl)
          clear z2 zz
          go_wp2_with fail
          go_ret
          exact ⟨by cases he2.out; rfl, B0.out⟩
theorem ok_iff {l : L} : l.ok = true ↔ 1 ≤ l.segs ∧ l.segs ≤ 8 ∧ l.plans.length ≤ 6 ∧ l.hosts.length ≤ 8 ∧ twins l.ids = false ∧ twins l.macs = false ∧ l.plans.all (P.ok l.segs) = true ∧ l.hosts.all (hostB uni l.segs) = true := by
  unfold L.ok L.okU L.plansB L.hostsB
  simp only [Bool.and_eq_true, decide_eq_true_eq, Bool.not_eq_true']
  constructor
  · rintro ⟨⟨a, b⟩, ⟨c, d, e⟩, f, g, h⟩; exact ⟨a, b, c, f, d, g, e, h⟩
  · rintro ⟨a, b, c, d, e, f, g, h⟩; exact ⟨⟨a, b⟩, ⟨c, e, g⟩, d, f, h⟩
set_option maxHeartbeats 16000000 in
theorem r_right {l : L} {A : Option Addr} {c : Nat} {B : Option Addr} {d : Nat} {w : World} (hr : LanR w l A c B d) (hs : Small l) {b : Bool} (he : l.ok = b) :
    Calls Try.prog 13 #[lv l A c B d] w fun e w' => e = .returned (.bool b) ∧ Below w.heap.size w w' := by
  have H := Lib.hid hr
  have HS := Lib.hid hs
  replace he := Lib.hid he
  obtain ⟨w0, hw0, X0, R0, B0⟩ := new3 w hr
  have hT := Lib.hid (fun q h => r_twice R0 hs (b := q) h)
  replace X0 := Lib.hid X0
  replace B0 := Lib.hid B0
  clear hr hs R0
  go_enter Try.func13, Try.ntmps13
  go_upto_region 1 with fail
  rw [← hw0]
  clear hw0
  have x0 := X0.out.c (i := 0) rfl
  have x1 := X0.out.c (i := 1) rfl
  have x2 := X0.out.c (i := 2) rfl
  have zz := X0.out.lt
  by_cases h0 : l.segs < 1
  · have hb9 : b = false := by
      cases b with
      | false => rfl
      | true => exact absurd (ok_iff.1 he.out) (by rintro ⟨a1, a2, a3, a4, a5, a6, a7, a8⟩; omega)
    subst hb9
    replace he := Lib.hid he.out
    go_wp2_with fail
    go_ret
    exact ⟨rfl, B0.out⟩
  by_cases h1 : 8 < l.segs
  · have hb9 : b = false := by
      cases b with
      | false => rfl
      | true => exact absurd (ok_iff.1 he.out) (by rintro ⟨a1, a2, a3, a4, a5, a6, a7, a8⟩; omega)
    subst hb9
    replace he := Lib.hid he.out
    go_wp2_with fail
    go_ret
    exact ⟨rfl, B0.out⟩
  by_cases h2 : 6 < (l.plans.length : Int)
  · have hb9 : b = false := by
      cases b with
      | false => rfl
      | true => exact absurd (ok_iff.1 he.out) (by rintro ⟨a1, a2, a3, a4, a5, a6, a7, a8⟩; omega)
    subst hb9
    replace he := Lib.hid he.out
    go_wp2_with fail
    go_ret
    exact ⟨rfl, B0.out⟩
  by_cases h3 : 8 < (l.hosts.length : Int)
  · have hb9 : b = false := by
      cases b with
      | false => rfl
      | true => exact absurd (ok_iff.1 he.out) (by rintro ⟨a1, a2, a3, a4, a5, a6, a7, a8⟩; omega)
    subst hb9
    replace he := Lib.hid he.out
    go_wp2_with fail
    go_ret
    exact ⟨rfl, B0.out⟩
  obtain ⟨t, ht⟩ : ∃ t, (twins l.ids || twins l.macs) = t := ⟨_, rfl⟩
  have hC := Lib.hid (hT.out t ht)
  cases t
  · obtain ⟨ht1, ht2⟩ := Bool.or_eq_false_iff.1 ht
    replace ht := Lib.hid ht
    replace ht1 := Lib.hid ht1
    replace ht2 := Lib.hid ht2
    go_wp2_with fail
    go_at_call 42
    (with_reducible refine hC.out.mono ?_)
    rintro e w1 ⟨rfl, hb1⟩
    have B1 := Lib.hid (bt B0.out hb1)
    have X1 := Lib.hid (X0.out.below hb1)
    clear hb1 x0 x1 x2 zz hT hC
    have x0 := X1.out.c (i := 0) rfl
    have x1 := X1.out.c (i := 1) rfl
    have x2 := X1.out.c (i := 2) rfl
    have zz := X1.out.lt
    go_wp2_with fail
    clear x0 x1 x2 zz
    go_loopw [34] (fun i wr => ∃ k : Nat, k ≤ l.plans.length ∧ i = .int .i64 k ∧ (l.plans.take k).all (P.ok l.segs) = true ∧ Bx wr w.heap.size 25 #[.int .i64 l.segs, .slice A l.plans.length c, .slice B l.hosts.length d] ∧ Below w.heap.size w wr) (fun i _ => l.plans.length - (intOf i).toNat)
    case atStart => exact ⟨0, by omega, rfl, rfl, X1.out, B1.out⟩
    case round =>
      clear B1 X1
      obtain ⟨k, hk, rfl, hall, hX, hb⟩ := hrel
      by_cases hkn : k < l.plans.length
      · have hkl : (k : Int) < (l.plans.length : Int) := by omega
        have HP := Lib.hid H.out.plans
        obtain ⟨x, hx⟩ : ∃ x, l.plans[k]? = some x := ⟨_, List.getElem?_eq_getElem hkn⟩
        obtain ⟨bS8, oS8, A8, c8, hAS8, hbS8, q8_0, q8_1, hrow8⟩ := RowP.at_ (HP.out.below hb) hx
        subst hAS8
        obtain ⟨w8, hw8⟩ : ∃ W, W = wr.alloc (.cells #[.int .i64 x.id, .slice A8 x.ports.length c8] 60) := ⟨_, rfl⟩
        have bb8 : Below wr.heap.size wr w8 := by rw [hw8]; exact (Below.refl _ _).alloc (Nat.le_refl _) _
        have b8 := Lib.hid (bt hb bb8)
        have X8 := Lib.hid (show Bx w8 wr.heap.size 60 #[.int .i64 x.id, .slice A8 x.ports.length c8] by rw [hw8]; exact Bx.new _ _ _ rfl)
        have R8 := Lib.hid (hrow8.below bb8)
        clear hrow8
        have hpx := HS.out.ports x (List.mem_of_getElem? hx)
        have hgood := Lib.hid fun h => all_more (f := P.ok l.segs) hx hall h
        have hbad := Lib.hid fun h => all_bad (f := P.ok l.segs) hx h
        have XX := Lib.hid (hX.below bb8)
        clear hall hX
        replace hx := Lib.hid hx
        clear hb bb8
        go_upto_region 6 with fail
        rw [← hw8]
        clear hw8 q8_0 q8_1 hbS8
        have o8_0 := X8.out.c (i := 0) rfl
        have o8_1 := X8.out.c (i := 1) rfl
        have zz8 := X8.out.lt
        obtain ⟨u, hu⟩ : ∃ u, P.ok l.segs x = u := ⟨_, rfl⟩
        have hI := Lib.hid (r_plan R8.out (by omega) hu)
        have z0 := XX.out.c (i := 0) rfl
        have z1 := XX.out.lt
        cases u
        · have he2 := Lib.hid (show b = false by
            cases b with
            | false => rfl
            | true => exact absurd (ok_iff.1 he.out) (by rintro ⟨a1, a2, a3, a4, a5, a6, a7, a8⟩; rw [hbad.out hu] at a7; cases a7))
          replace hu := Lib.hid hu
          clear he
          go_wp2_with fail
          go_at_call 43
          (with_reducible refine hI.out.mono ?_)
          rintro e w2 ⟨rfl, hb2⟩
          have B2 := Lib.hid (bt b8.out hb2)
          clear hb2 o8_0 o8_1 zz8 z0 z1
          go_wp2_with fail
          go_ret
          exact ⟨by cases he2.out; rfl, B2.out⟩
        · have hs2 := Lib.hid (hgood.out hu)
          replace hu := Lib.hid hu
          go_wp2_with fail
          go_at_call 43
          (with_reducible refine hI.out.mono ?_)
          rintro e w2 ⟨rfl, hb2⟩
          have B2 := Lib.hid (bt b8.out hb2)
          have X2 := Lib.hid (XX.out.below hb2)
          clear hb2 o8_0 o8_1 zz8 z0 z1
          go_wp2_with fail
          go_roundw
          case rel => exact ⟨k + 1, by omega, by go_num, hs2.out, X2.out, B2.out⟩
          case measure => simp [intOf]; omega
      · obtain rfl : k = l.plans.length := by omega
        rw [List.take_length] at hall
        have hPall := Lib.hid hall
        have X1 := Lib.hid hX
        have B1 := Lib.hid hb
        have z2 := X1.out.c (i := 2) rfl
        have zz := X1.out.lt
        clear hall hX hb
        go_wp2_with fail
        clear z2 zz
        go_loopw [47] (fun i wr => ∃ k : Nat, k ≤ l.hosts.length ∧ i = .int .i64 k ∧ (l.hosts.take k).all (hostB uni l.segs) = true ∧ Bx wr w.heap.size 25 #[.int .i64 l.segs, .slice A l.plans.length c, .slice B l.hosts.length d] ∧ Below w.heap.size w wr) (fun i _ => l.hosts.length - (intOf i).toNat)
        case atStart => exact ⟨0, by omega, rfl, rfl, X1.out, B1.out⟩
        case round =>
          clear B1 X1
          obtain ⟨k, hk, rfl, hall, hX, hb⟩ := hrel
          by_cases hkn : k < l.hosts.length
          · have hkl : (k : Int) < (l.hosts.length : Int) := by omega
            have HH := Lib.hid H.out.hosts
            obtain ⟨x, hx⟩ : ∃ x, l.hosts[k]? = some x := ⟨_, List.getElem?_eq_getElem hkn⟩
            obtain ⟨bS8, oS8, hAS8, hbS8, q8_0, q8_1⟩ := Row.hat (HH.out.below hb) hx
            subst hAS8
            obtain ⟨w8, hw8⟩ : ∃ W, W = wr.alloc (.cells #[.int .i64 x.1, .int .i64 x.2] 82) := ⟨_, rfl⟩
            have bb8 : Below wr.heap.size wr w8 := by rw [hw8]; exact (Below.refl _ _).alloc (Nat.le_refl _) _
            have b8 := Lib.hid (bt hb bb8)
            have X8 := Lib.hid (show Bx w8 wr.heap.size 82 #[.int .i64 x.1, .int .i64 x.2] by rw [hw8]; exact Bx.new _ _ _ rfl)
            have hgood := Lib.hid fun h => all_more (f := hostB uni l.segs) hx hall h
            have hbad := Lib.hid fun h => all_bad (f := hostB uni l.segs) hx h
            have XX := Lib.hid (hX.below bb8)
            clear hall hX
            replace hx := Lib.hid hx
            clear hb bb8
            go_upto_region 12 with fail
            rw [← hw8]
            clear hw8 q8_0 q8_1 hbS8
            have o8_0 := X8.out.c (i := 0) rfl
            have o8_1 := X8.out.c (i := 1) rfl
            have zz8 := X8.out.lt
            have hdef : hostB uni l.segs x = (uni x.1 && (decide (0 ≤ x.2) && decide (x.2 < l.segs))) := rfl
            obtain ⟨u, hu⟩ : ∃ u, uni x.1 = u := ⟨_, rfl⟩
            rw [hu] at hdef
            have hI := Lib.hid (fun W => r_mac x.1 W hu)
            have z0 := XX.out.c (i := 0) rfl
            have z1 := XX.out.lt
            have hno := Lib.hid (show hostB uni l.segs x = false → b = false from fun h => by
              cases b with
              | false => rfl
              | true => exact absurd (ok_iff.1 he.out) (by rintro ⟨a1, a2, a3, a4, a5, a6, a7, a8⟩; rw [hbad.out h] at a8; cases a8))
            replace hu := Lib.hid hu
            cases u
            · have he2 := Lib.hid (hno.out (by rw [hdef]; rfl))
              clear he hdef
              go_wp2_with fail
              go_at_call 44
              (with_reducible refine (hI.out _).mono ?_)
              rintro e w2 ⟨rfl, rfl⟩
              go_wp2_with fail
              go_ret
              exact ⟨by cases he2.out; rfl, b8.out⟩
            · by_cases g1 : x.2 < 0
              · have he2 := Lib.hid (hno.out (by rw [hdef]; simp; intros; omega))
                clear he hdef
                go_wp2_with fail
                go_at_call 44
                (with_reducible refine (hI.out _).mono ?_)
                rintro e w2 ⟨rfl, rfl⟩
                go_wp2_with fail
                go_ret
                exact ⟨by cases he2.out; rfl, b8.out⟩
              · by_cases g2 : l.segs ≤ x.2
                · have he2 := Lib.hid (hno.out (by rw [hdef]; simp; intros; omega))
                  clear he hdef
                  go_wp2_with fail
                  go_at_call 44
                  (with_reducible refine (hI.out _).mono ?_)
                  rintro e w2 ⟨rfl, rfl⟩
                  go_wp2_with fail
                  go_ret
                  exact ⟨by cases he2.out; rfl, b8.out⟩
                · have hs2 := Lib.hid (hgood.out (by rw [hdef]; simp; omega))
                  clear hdef
                  go_wp2_with fail
                  go_at_call 44
                  (with_reducible refine (hI.out _).mono ?_)
                  rintro e w2 ⟨rfl, rfl⟩
                  go_wp2_with fail
                  go_roundw
                  case rel => exact ⟨k + 1, by omega, by go_num, hs2.out, XX.out, b8.out⟩
                  case measure => simp [intOf]; omega
          · obtain rfl : k = l.hosts.length := by omega
            rw [List.take_length] at hall
            have he2 := Lib.hid (he.out.symm.trans (ok_iff.2 ⟨by omega, by omega, by omega, by omega, ht1.out, ht2.out, hPall.out, hall⟩))
            replace hb := Lib.hid hb
            replace hX := Lib.hid hX
            clear hall he
            go_wp2_with fail
            go_ret
            exact ⟨by cases he2.out; rfl, hb.out⟩
  · have he2 := Lib.hid (show b = false by
      cases b with
      | false => rfl
      | true => exact absurd (ok_iff.1 he.out) (by rintro ⟨a1, a2, a3, a4, a5, a6, a7, a8⟩; rw [a5, a6] at ht; cases ht))
    replace ht := Lib.hid ht
    clear he
    go_wp2_with fail
    go_at_call 42
    (with_reducible refine hC.out.mono ?_)
    rintro e w1 ⟨rfl, hb1⟩
    have B1 := Lib.hid (bt B0.out hb1)
    clear hb1 x0 x1 x2 zz hT hC
    go_wp2_with fail
    go_ret
    exact ⟨by cases he2.out; rfl, B1.out⟩
end Go.Proofs.Ytgcmklliafcffaa.LanP
