/-
  Contracts of lan's arePlans, areHosts, Right, check.
-/
import Derived.Test.YtgcmklliafcffaaLanC
namespace Go.Proofs.Ytgcmklliafcffaa.LanP
open Go.RowKit Go.Sort Go.Proofs.Ytgcmklliafcffaa.SliceP Go.Proofs.Ytgcmklliafcffaa.BoxP
open Go.Proofs.Ytgcmklliafcffaa.IntP (RowI SlI OwnI)
open Go.Proofs.Ytgcmklliafcffaa.BoolP (RowB SlB OwnB)
open Go.Proofs.Ytgcmklliafcffaa.MacP (classI class_yes class_no ref_right_no ref_right_yes ref_class)
open Go.Proofs.Ytgcmklliafcffaa.LruP (hasI placeI has_more has_hit place_hit place_none place_geq has_true has_false)
set_option linter.unusedVariables false
set_option maxRecDepth 100000
set_option maxHeartbeats 400000 in
theorem o_twin_p (i : Int) (s : Value) (id : Int) (c : Nat) (w : World) (hc : w.cell? ⟨c, 0, none⟩ = some (.int .i64 id)) (hlt : c < w.heap.size) :
    Calls Try.prog 101 #[.agg #[.int .i64 i, s], .pointer (some ⟨c, 0, none⟩)] w fun e w' => e = .returned (.bool (i == id)) ∧ Below w.heap.size w w' := by
  go_enter Try.func101, Try.ntmps101
  go_wp2
  go_ret
  exact ⟨rfl, (Below.refl _ _).alloc (Nat.le_refl _) _⟩
abbrev twinF_p (c : Nat) : Value := .func (.func 101) #[] #[.pointer (some ⟨c, 0, none⟩)]
set_option maxHeartbeats 2000000 in
theorem o_index_p {A : Option Addr} {n c : Nat} {l : List P} (id : Int) (g : Nat) (w : World) (hl : l.length ≤ 1000000) (h : RowP w A n c l) (hc : w.cell? ⟨g, 0, none⟩ = some (.int .i64 id)) (hlt : g < w.heap.size) :
    Calls Try.prog 125 #[.slice A n c, twinF_p g] w fun e w' => e = .returned (.int .i64 (placeI (l.map P.id) id)) ∧ Below w.heap.size w w' := by
  obtain rfl := h.len
  have H := Lib.hid h
  have HC := Lib.hid hc
  clear h hc
  go_enter Try.func125, Try.ntmps125
  go_wp2_with fail
  go_loopw [8] (fun i wr => ∃ k : Nat, k ≤ l.length ∧ i = .int .i64 k ∧ hasI ((l.map P.id).take k) id = false ∧ Below w.heap.size w wr) (fun i _ => l.length - (intOf i).toNat)
  case atStart => exact ⟨0, by omega, rfl, rfl, Below.refl _ _⟩
  case round =>
    obtain ⟨k, hk, rfl, hno, hb⟩ := hrel
    replace hno := Lib.hid hno
    by_cases hlk : k < l.length
    · obtain ⟨x, hx⟩ : ∃ x, l[k]? = some x := ⟨_, List.getElem?_eq_getElem hlk⟩
      obtain ⟨b, o, A8, c8, rfl, hbw, x0, x1, hrow⟩ := RowP.at_ H.out hx
      clear hrow
      replace x0 := (hb.cell (p := ⟨b, _, none⟩) hbw).trans x0
      replace x1 := (hb.cell (p := ⟨b, _, none⟩) hbw).trans x1
      have hcr := Lib.hid ((hb.cell (p := ⟨g, _, none⟩) hlt).trans HC.out)
      have hs := hb.size
      have hltr : g < wr.heap.size := by omega
      have hx2 : (l.map P.id)[k]? = some x.id := by rw [List.getElem?_map, hx]; rfl
      replace hx2 := Lib.hid hx2
      replace hx := Lib.hid hx
      cases hh : x.id == id
      all_goals
        replace hh := Lib.hid hh
        go_wp2_with fail
        go_at_call 101
        (with_reducible refine (o_twin_p x.id (.slice A8 x.ports.length c8) id g _ hcr.out hltr).mono ?_)
        rintro e w1 ⟨rfl, hb1⟩
        rw [hh.out]
        have B1 : Below w.heap.size w w1 := hb.trans (hb1.mono hs)
        clear hb1 x0 x1
        go_wp2_with fail
      · go_roundw
        case rel => exact ⟨k + 1, by omega, by go_num, has_more hno.out hx2.out hh.out, B1⟩
        case measure => simp [intOf]; omega
      · go_ret
        exact ⟨by rw [place_hit hno.out hx2.out hh.out]; rfl, B1⟩
    · obtain rfl : k = l.length := by omega
      have hno2 := Lib.hid (show hasI ((l.map P.id).take (l.map P.id).length) id = false by rw [List.length_map]; exact hno.out)
      go_wp2_with fail
      go_ret
      exact ⟨by rw [place_none hno2.out]; rfl, hb⟩
set_option maxHeartbeats 1000000 in
theorem o_has_p {A : Option Addr} {n c : Nat} {l : List P} (id : Int) (g : Nat) (w : World) (hl : l.length ≤ 1000000) (h : RowP w A n c l) (hc : w.cell? ⟨g, 0, none⟩ = some (.int .i64 id)) (hlt : g < w.heap.size) {b : Bool} (hb : hasI (l.map P.id) id = b) :
    Calls Try.prog 103 #[.slice A n c, twinF_p g] w fun e w' => e = .returned (.bool b) ∧ Below w.heap.size w w' := by
  subst hb
  have H := Lib.hid h
  have HC := Lib.hid hc
  clear h hc
  go_enter Try.func103, Try.ntmps103
  go_wp2_with fail
  go_at_call 125
  (with_reducible refine (o_index_p id g _ hl H.out HC.out hlt).mono ?_)
  rintro e w1 ⟨rfl, hb1⟩
  go_wp2_with fail
  go_ret
  exact ⟨by rw [← place_geq]; rfl, hb1⟩
set_option maxHeartbeats 400000 in
theorem o_twin_h (i : Int) (s : Int) (id : Int) (c : Nat) (w : World) (hc : w.cell? ⟨c, 0, none⟩ = some (.int .i64 id)) (hlt : c < w.heap.size) :
    Calls Try.prog 104 #[.agg #[.int .i64 i, .int .i64 s], .pointer (some ⟨c, 0, none⟩)] w fun e w' => e = .returned (.bool (i == id)) ∧ Below w.heap.size w w' := by
  go_enter Try.func104, Try.ntmps104
  go_wp2
  go_ret
  exact ⟨rfl, (Below.refl _ _).alloc (Nat.le_refl _) _⟩
abbrev twinF_h (c : Nat) : Value := .func (.func 104) #[] #[.pointer (some ⟨c, 0, none⟩)]
set_option maxHeartbeats 2000000 in
theorem o_index_h {A : Option Addr} {n c : Nat} {l : List Hs} (id : Int) (g : Nat) (w : World) (hl : l.length ≤ 1000000) (h : Row hc 2 w A n c l) (hc : w.cell? ⟨g, 0, none⟩ = some (.int .i64 id)) (hlt : g < w.heap.size) :
    Calls Try.prog 127 #[.slice A n c, twinF_h g] w fun e w' => e = .returned (.int .i64 (placeI (l.map Prod.fst) id)) ∧ Below w.heap.size w w' := by
  obtain rfl := h.len
  have H := Lib.hid h
  have HC := Lib.hid hc
  clear h hc
  go_enter Try.func127, Try.ntmps127
  go_wp2_with fail
  go_loopw [8] (fun i wr => ∃ k : Nat, k ≤ l.length ∧ i = .int .i64 k ∧ hasI ((l.map Prod.fst).take k) id = false ∧ Below w.heap.size w wr) (fun i _ => l.length - (intOf i).toNat)
  case atStart => exact ⟨0, by omega, rfl, rfl, Below.refl _ _⟩
  case round =>
    obtain ⟨k, hk, rfl, hno, hb⟩ := hrel
    replace hno := Lib.hid hno
    by_cases hlk : k < l.length
    · obtain ⟨x, hx⟩ : ∃ x, l[k]? = some x := ⟨_, List.getElem?_eq_getElem hlk⟩
      obtain ⟨b, o, rfl, hbw, x0, x1⟩ := Row.hat H.out hx
      replace x0 := (hb.cell (p := ⟨b, _, none⟩) hbw).trans x0
      replace x1 := (hb.cell (p := ⟨b, _, none⟩) hbw).trans x1
      have hcr := Lib.hid ((hb.cell (p := ⟨g, _, none⟩) hlt).trans HC.out)
      have hs := hb.size
      have hltr : g < wr.heap.size := by omega
      have hx2 : (l.map Prod.fst)[k]? = some x.1 := by rw [List.getElem?_map, hx]; rfl
      replace hx2 := Lib.hid hx2
      replace hx := Lib.hid hx
      cases hh : x.1 == id
      all_goals
        replace hh := Lib.hid hh
        go_wp2_with fail
        go_at_call 104
        (with_reducible refine (o_twin_h x.1 x.2 id g _ hcr.out hltr).mono ?_)
        rintro e w1 ⟨rfl, hb1⟩
        rw [hh.out]
        have B1 : Below w.heap.size w w1 := hb.trans (hb1.mono hs)
        clear hb1 x0 x1
        go_wp2_with fail
      · go_roundw
        case rel => exact ⟨k + 1, by omega, by go_num, has_more hno.out hx2.out hh.out, B1⟩
        case measure => simp [intOf]; omega
      · go_ret
        exact ⟨by rw [place_hit hno.out hx2.out hh.out]; rfl, B1⟩
    · obtain rfl : k = l.length := by omega
      have hno2 := Lib.hid (show hasI ((l.map Prod.fst).take (l.map Prod.fst).length) id = false by rw [List.length_map]; exact hno.out)
      go_wp2_with fail
      go_ret
      exact ⟨by rw [place_none hno2.out]; rfl, hb⟩
set_option maxHeartbeats 1000000 in
theorem o_has_h {A : Option Addr} {n c : Nat} {l : List Hs} (id : Int) (g : Nat) (w : World) (hl : l.length ≤ 1000000) (h : Row hc 2 w A n c l) (hc : w.cell? ⟨g, 0, none⟩ = some (.int .i64 id)) (hlt : g < w.heap.size) {b : Bool} (hb : hasI (l.map Prod.fst) id = b) :
    Calls Try.prog 106 #[.slice A n c, twinF_h g] w fun e w' => e = .returned (.bool b) ∧ Below w.heap.size w w' := by
  subst hb
  have H := Lib.hid h
  have HC := Lib.hid hc
  clear h hc
  go_enter Try.func106, Try.ntmps106
  go_wp2_with fail
  go_at_call 127
  (with_reducible refine (o_index_h id g _ hl H.out HC.out hlt).mono ?_)
  rintro e w1 ⟨rfl, hb1⟩
  go_wp2_with fail
  go_ret
  exact ⟨by rw [← place_geq]; rfl, hb1⟩
set_option maxHeartbeats 8000000 in
theorem o_are_p {A : Option Addr} {c : Nat} {l : List P} {w : World} {m : Int} (hr : RowP w A l.length c l) (hl : l.length ≤ 1000) (hp : ∀ p ∈ l, p.ports.length ≤ 1000) {b : Bool} (he : (decide (l.length ≤ 6) && (!(twins (l.map P.id)) && l.all (P.ok m))) = b) :
    Calls Try.prog 68 #[.slice A l.length c, .int .i64 m] w fun e w' => e = .returned (.bool b) ∧ Below w.heap.size w w' := by
  have H := Lib.hid hr
  have hlc := hr.cap
  have hmx := hr.mx
  clear hr
  go_enter Try.func68, Try.ntmps68
  by_cases h1 : 6 < (l.length : Int)
  · rw [decide_eq_false (p := l.length ≤ 6) (by omega), Bool.false_and] at he
    subst he
    go_wp2_with fail
    go_ret
    exact ⟨rfl, Below.refl _ _⟩
  rw [decide_eq_true (p := l.length ≤ 6) (by omega), Bool.true_and] at he
  replace he := Lib.hid he
  go_wp2_with fail
  go_loopw [13] (fun i wr => ∃ k : Nat, k ≤ l.length ∧ i = .int .i64 k ∧ (l.take k).all (P.ok m) = true ∧ (List.range k).any (twin (l.map P.id)) = false ∧ Below w.heap.size w wr) (fun i _ => l.length - (intOf i).toNat)
  case atStart => exact ⟨0, by omega, rfl, rfl, rfl, Below.refl _ _⟩
  case round =>
    obtain ⟨k, hk, rfl, hall, htw, hb⟩ := hrel
    have hsz := hb.size
    by_cases hkn : k < l.length
    · have hkl : (k : Int) < (l.length : Int) := by omega
      have hkt : (l.take k).length = k := by rw [List.length_take]; omega
      obtain ⟨x, hx⟩ : ∃ x, l[k]? = some x := ⟨_, List.getElem?_eq_getElem hkn⟩
      obtain ⟨bS8, oS8, A8, c8, hAS8, hbS8, q8_0, q8_1, hrow8⟩ := RowP.at_ (H.out.below hb) hx
      subst hAS8
      obtain ⟨w8, hw8⟩ : ∃ W, W = wr.alloc (.cells #[.int .i64 x.id, .slice A8 x.ports.length c8] 60) := ⟨_, rfl⟩
      have bb8 : Below wr.heap.size wr w8 := by rw [hw8]; exact (Below.refl _ _).alloc (Nat.le_refl _) _
      have b8 := Lib.hid (bt hb bb8)
      have X8 := Lib.hid (show Bx w8 wr.heap.size 60 #[.int .i64 x.id, .slice A8 x.ports.length c8] by rw [hw8]; exact Bx.new _ _ _ rfl)
      have R8 := Lib.hid (hrow8.below bb8)
      clear hrow8
      have hgood := Lib.hid fun h => all_more (f := (P.ok m)) hx hall h
      have hbad := Lib.hid fun h => all_bad (f := (P.ok m)) hx h
      have hpx := Lib.hid (hp x (List.mem_of_getElem? hx))
      have htg := Lib.hid fun h => range_more (f := twin (l.map P.id)) htw h
      have htb := Lib.hid (show twin (l.map P.id) k = true → twins (l.map P.id) = true from fun h => List.any_eq_true.2 ⟨k, List.mem_range.2 (by rw [List.length_map]; exact hkn), h⟩)
      have htd : twin (l.map P.id) k = hasI ((l.take k).map P.id) x.id := by
        unfold twin hasI
        rw [List.getD_eq_getElem?_getD, List.getElem?_map, hx, ← List.map_take]; rfl
      have HT := Lib.hid ((H.out.below (bt hb bb8)).take k)
      clear hall htw
      replace hx := Lib.hid hx
      clear hb bb8
      go_upto_region 7 with fail
      rw [← hw8]
      clear hw8 q8_0 q8_1 hbS8
      have o8_0 := X8.out.c (i := 0) rfl
      have o8_1 := X8.out.c (i := 1) rfl
      have zz8 := X8.out.lt
      rw [hkt] at HT
      replace hkt := Lib.hid hkt
      obtain ⟨u, hu⟩ : ∃ u, (P.ok m) x = u := ⟨_, rfl⟩
      have hI := Lib.hid (show Calls Try.prog 102 #[.agg #[.int .i64 x.id, .slice A8 x.ports.length c8], .int .i64 m] w8 _ from o_isplan R8.out (hpx.out) hu)
      obtain ⟨t, ht⟩ : ∃ t, twin (l.map P.id) k = t := ⟨_, rfl⟩
      rw [ht] at htd
      have hdf : (!(twins (l.map P.id)) && l.all (P.ok m)) = b := he.out
      cases u
      · have he2 := Lib.hid (show b = false by rw [← hdf, hbad.out hu, Bool.and_false])
        replace hu := Lib.hid hu
        replace ht := Lib.hid ht
        clear he hdf
        replace htd := Lib.hid htd
        go_wp2_with fail
        go_at_call 102
        (with_reducible refine hI.out.mono ?_)
        rintro e w1 ⟨rfl, hb1⟩
        have B1 := Lib.hid (bt b8.out hb1)
        clear hb1 o8_0 o8_1 zz8
        go_wp2_with fail
        go_ret
        exact ⟨by cases he2.out; rfl, B1.out⟩
      · cases t
        · have hs2 := Lib.hid (hgood.out hu)
          have hs3 := Lib.hid (htg.out ht)
          replace hu := Lib.hid hu
          replace ht := Lib.hid ht
          replace htd := Lib.hid htd.symm
          clear hdf
          go_wp2_with fail
          go_at_call 102
          (with_reducible refine hI.out.mono ?_)
          rintro e w1 ⟨rfl, hb1⟩
          have B1 := Lib.hid (bt b8.out hb1)
          have X1 := Lib.hid (X8.out.below hb1)
          have HF := Lib.hid (show Calls _ _ _ _ _ from o_has_p x.id wr.heap.size w1 (by rw [hkt.out]; omega) (HT.out.below hb1) (X1.out.c (i := 0) rfl) X1.out.lt htd.out)
          have p0 := X1.out.c (i := 0) rfl
          have pz := X1.out.lt
          clear hb1 o8_0 o8_1 zz8
          go_wp2_with fail
          go_at_call 103
          (with_reducible refine HF.out.mono ?_)
          rintro e w2 ⟨rfl, hb2⟩
          have B2 := Lib.hid (bt B1.out hb2)
          clear hb2 p0 pz
          go_wp2_with fail
          go_roundw
          case rel => exact ⟨k + 1, by omega, by go_num, hs2.out, hs3.out, B2.out⟩
          case measure => simp [intOf]; omega
        · have he2 := Lib.hid (show b = false by rw [← hdf, htb.out ht]; rfl)
          replace hu := Lib.hid hu
          replace ht := Lib.hid ht
          replace htd := Lib.hid htd.symm
          clear hdf he
          go_wp2_with fail
          go_at_call 102
          (with_reducible refine hI.out.mono ?_)
          rintro e w1 ⟨rfl, hb1⟩
          have B1 := Lib.hid (bt b8.out hb1)
          have X1 := Lib.hid (X8.out.below hb1)
          have HF := Lib.hid (show Calls _ _ _ _ _ from o_has_p x.id wr.heap.size w1 (by rw [hkt.out]; omega) (HT.out.below hb1) (X1.out.c (i := 0) rfl) X1.out.lt htd.out)
          have p0 := X1.out.c (i := 0) rfl
          have pz := X1.out.lt
          clear hb1 o8_0 o8_1 zz8
          go_wp2_with fail
          go_at_call 103
          (with_reducible refine HF.out.mono ?_)
          rintro e w2 ⟨rfl, hb2⟩
          have B2 := Lib.hid (bt B1.out hb2)
          clear hb2 p0 pz
          go_wp2_with fail
          go_ret
          exact ⟨by cases he2.out; rfl, B2.out⟩
    · obtain rfl : k = l.length := by omega
      rw [List.take_length] at hall
      have he2 := Lib.hid (show b = true by
        rw [← he.out, hall, Bool.and_true]
        unfold twins
        rw [List.length_map, htw]; rfl)
      replace hb := Lib.hid hb
      clear hall he htw
      go_wp2_with fail
      go_ret
      exact ⟨by cases he2.out; rfl, hb.out⟩
set_option maxHeartbeats 8000000 in
theorem o_are_h {A : Option Addr} {c : Nat} {l : List Hs} {w : World} {m : Int} (hr : Row hc 2 w A l.length c l) (hl : l.length ≤ 1000) {b : Bool} (he : (decide (l.length ≤ 8) && (!(twins (l.map Prod.fst)) && l.all (hostB uni m))) = b) :
    Calls Try.prog 69 #[.slice A l.length c, .int .i64 m] w fun e w' => e = .returned (.bool b) ∧ Below w.heap.size w w' := by
  have H := Lib.hid hr
  have hlc := hr.cap
  have hmx := hr.mx
  clear hr
  go_enter Try.func69, Try.ntmps69
  by_cases h1 : 8 < (l.length : Int)
  · rw [decide_eq_false (p := l.length ≤ 8) (by omega), Bool.false_and] at he
    subst he
    go_wp2_with fail
    go_ret
    exact ⟨rfl, Below.refl _ _⟩
  rw [decide_eq_true (p := l.length ≤ 8) (by omega), Bool.true_and] at he
  replace he := Lib.hid he
  go_wp2_with fail
  go_loopw [13] (fun i wr => ∃ k : Nat, k ≤ l.length ∧ i = .int .i64 k ∧ (l.take k).all (hostB uni m) = true ∧ (List.range k).any (twin (l.map Prod.fst)) = false ∧ Below w.heap.size w wr) (fun i _ => l.length - (intOf i).toNat)
  case atStart => exact ⟨0, by omega, rfl, rfl, rfl, Below.refl _ _⟩
  case round =>
    obtain ⟨k, hk, rfl, hall, htw, hb⟩ := hrel
    have hsz := hb.size
    by_cases hkn : k < l.length
    · have hkl : (k : Int) < (l.length : Int) := by omega
      have hkt : (l.take k).length = k := by rw [List.length_take]; omega
      obtain ⟨x, hx⟩ : ∃ x, l[k]? = some x := ⟨_, List.getElem?_eq_getElem hkn⟩
      obtain ⟨bS8, oS8, hAS8, hbS8, q8_0, q8_1⟩ := Row.hat (H.out.below hb) hx
      subst hAS8
      obtain ⟨w8, hw8⟩ : ∃ W, W = wr.alloc (.cells #[.int .i64 x.1, .int .i64 x.2] 82) := ⟨_, rfl⟩
      have bb8 : Below wr.heap.size wr w8 := by rw [hw8]; exact (Below.refl _ _).alloc (Nat.le_refl _) _
      have b8 := Lib.hid (bt hb bb8)
      have X8 := Lib.hid (show Bx w8 wr.heap.size 82 #[.int .i64 x.1, .int .i64 x.2] by rw [hw8]; exact Bx.new _ _ _ rfl)
      have hgood := Lib.hid fun h => all_more (f := (hostB uni m)) hx hall h
      have hbad := Lib.hid fun h => all_bad (f := (hostB uni m)) hx h
      have htg := Lib.hid fun h => range_more (f := twin (l.map Prod.fst)) htw h
      have htb := Lib.hid (show twin (l.map Prod.fst) k = true → twins (l.map Prod.fst) = true from fun h => List.any_eq_true.2 ⟨k, List.mem_range.2 (by rw [List.length_map]; exact hkn), h⟩)
      have htd : twin (l.map Prod.fst) k = hasI ((l.take k).map Prod.fst) x.1 := by
        unfold twin hasI
        rw [List.getD_eq_getElem?_getD, List.getElem?_map, hx, ← List.map_take]; rfl
      have HT := Lib.hid ((H.out.below (bt hb bb8)).take k)
      clear hall htw
      replace hx := Lib.hid hx
      clear hb bb8
      go_upto_region 7 with fail
      rw [← hw8]
      clear hw8 q8_0 q8_1 hbS8
      have o8_0 := X8.out.c (i := 0) rfl
      have o8_1 := X8.out.c (i := 1) rfl
      have zz8 := X8.out.lt
      rw [hkt] at HT
      replace hkt := Lib.hid hkt
      obtain ⟨u, hu⟩ : ∃ u, (hostB uni m) x = u := ⟨_, rfl⟩
      have hI := Lib.hid (show Calls Try.prog 105 #[hv x, .int .i64 m] w8 _ from o_ishost x m _ hu)
      obtain ⟨t, ht⟩ : ∃ t, twin (l.map Prod.fst) k = t := ⟨_, rfl⟩
      rw [ht] at htd
      have hdf : (!(twins (l.map Prod.fst)) && l.all (hostB uni m)) = b := he.out
      cases u
      · have he2 := Lib.hid (show b = false by rw [← hdf, hbad.out hu, Bool.and_false])
        replace hu := Lib.hid hu
        replace ht := Lib.hid ht
        clear he hdf
        replace htd := Lib.hid htd
        go_wp2_with fail
        go_at_call 105
        (with_reducible refine hI.out.mono ?_)
        rintro e w1 ⟨rfl, hb1⟩
        have B1 := Lib.hid (bt b8.out hb1)
        clear hb1 o8_0 o8_1 zz8
        go_wp2_with fail
        go_ret
        exact ⟨by cases he2.out; rfl, B1.out⟩
      · cases t
        · have hs2 := Lib.hid (hgood.out hu)
          have hs3 := Lib.hid (htg.out ht)
          replace hu := Lib.hid hu
          replace ht := Lib.hid ht
          replace htd := Lib.hid htd.symm
          clear hdf
          go_wp2_with fail
          go_at_call 105
          (with_reducible refine hI.out.mono ?_)
          rintro e w1 ⟨rfl, hb1⟩
          have B1 := Lib.hid (bt b8.out hb1)
          have X1 := Lib.hid (X8.out.below hb1)
          have HF := Lib.hid (show Calls _ _ _ _ _ from o_has_h x.1 wr.heap.size w1 (by rw [hkt.out]; omega) (HT.out.below hb1) (X1.out.c (i := 0) rfl) X1.out.lt htd.out)
          have p0 := X1.out.c (i := 0) rfl
          have pz := X1.out.lt
          clear hb1 o8_0 o8_1 zz8
          go_wp2_with fail
          go_at_call 106
          (with_reducible refine HF.out.mono ?_)
          rintro e w2 ⟨rfl, hb2⟩
          have B2 := Lib.hid (bt B1.out hb2)
          clear hb2 p0 pz
          go_wp2_with fail
          go_roundw
          case rel => exact ⟨k + 1, by omega, by go_num, hs2.out, hs3.out, B2.out⟩
          case measure => simp [intOf]; omega
        · have he2 := Lib.hid (show b = false by rw [← hdf, htb.out ht]; rfl)
          replace hu := Lib.hid hu
          replace ht := Lib.hid ht
          replace htd := Lib.hid htd.symm
          clear hdf he
          go_wp2_with fail
          go_at_call 105
          (with_reducible refine hI.out.mono ?_)
          rintro e w1 ⟨rfl, hb1⟩
          have B1 := Lib.hid (bt b8.out hb1)
          have X1 := Lib.hid (X8.out.below hb1)
          have HF := Lib.hid (show Calls _ _ _ _ _ from o_has_h x.1 wr.heap.size w1 (by rw [hkt.out]; omega) (HT.out.below hb1) (X1.out.c (i := 0) rfl) X1.out.lt htd.out)
          have p0 := X1.out.c (i := 0) rfl
          have pz := X1.out.lt
          clear hb1 o8_0 o8_1 zz8
          go_wp2_with fail
          go_at_call 106
          (with_reducible refine HF.out.mono ?_)
          rintro e w2 ⟨rfl, hb2⟩
          have B2 := Lib.hid (bt B1.out hb2)
          clear hb2 p0 pz
          go_wp2_with fail
          go_ret
          exact ⟨by cases he2.out; rfl, B2.out⟩
    · obtain rfl : k = l.length := by omega
      rw [List.take_length] at hall
      have he2 := Lib.hid (show b = true by
        rw [← he.out, hall, Bool.and_true]
        unfold twins
        rw [List.length_map, htw]; rfl)
      replace hb := Lib.hid hb
      clear hall he htw
      go_wp2_with fail
      go_ret
      exact ⟨by cases he2.out; rfl, hb.out⟩
set_option maxHeartbeats 4000000 in
theorem o_right {l : L} {A : Option Addr} {c : Nat} {B : Option Addr} {d : Nat} {w : World} (hr : LanR w l A c B d) (hs : Small l) {b : Bool} (he : l.ok = b) :
    Calls Try.prog 39 #[lv l A c B d] w fun e w' => e = .returned (.bool b) ∧ Below w.heap.size w w' := by
  obtain ⟨w0, hw0, X0, R0, B0⟩ := new3 w hr
  have HP := Lib.hid (fun q h => o_are_p (m := l.segs) (b := q) R0.plans (by have := hs.plans; omega) (fun p hp => by have := hs.ports p hp; omega) h)
  have HH := Lib.hid (fun W (hW : Below w0.heap.size w0 W) q h => o_are_h (m := l.segs) (b := q) (R0.hosts.below hW) (by have := hs.hosts; omega) h)
  replace X0 := Lib.hid X0
  replace B0 := Lib.hid B0
  replace R0 := Lib.hid R0
  clear hr hs
  go_enter Try.func39, Try.ntmps39
  go_upto_region 1 with fail
  rw [← hw0]
  clear hw0
  have x0 := X0.out.c (i := 0) rfl
  have x1 := X0.out.c (i := 1) rfl
  have x2 := X0.out.c (i := 2) rfl
  have zz := X0.out.lt
  unfold L.ok L.okU at he
  by_cases h1 : 1 ≤ l.segs
  · by_cases h2 : l.segs ≤ 8
    · rw [decide_eq_true h1, decide_eq_true h2, Bool.true_and, Bool.true_and] at he
      obtain ⟨u, hu⟩ : ∃ u, l.plansB = u := ⟨_, rfl⟩
      obtain ⟨t, ht⟩ : ∃ t, l.hostsB uni = t := ⟨_, rfl⟩
      rw [hu, ht] at he
      have hP := Lib.hid (HP.out u hu)
      have hH := Lib.hid (fun W hW => HH.out W hW t ht)
      replace hu := Lib.hid hu
      replace ht := Lib.hid ht
      cases u
      · rw [Bool.false_and] at he
        subst he
        go_wp2_with fail
        go_at_call 68
        (with_reducible refine hP.out.mono ?_)
        rintro e w1 ⟨rfl, hb1⟩
        have B1 := Lib.hid (bt B0.out hb1)
        clear hb1 x0 x1 x2 zz
        go_wp2_with fail
        go_ret
        exact ⟨rfl, B1.out⟩
      · rw [Bool.true_and] at he
        subst he
        go_wp2_with fail
        go_at_call 68
        (with_reducible refine hP.out.mono ?_)
        rintro e w1 ⟨rfl, hb1⟩
        have B1 := Lib.hid (bt B0.out hb1)
        have X1 := Lib.hid (X0.out.below hb1)
        have hH1 := Lib.hid (hH.out w1 hb1)
        clear hb1 x0 x1 x2 zz
        have x0 := X1.out.c (i := 0) rfl
        have x1 := X1.out.c (i := 1) rfl
        have x2 := X1.out.c (i := 2) rfl
        have zz := X1.out.lt
        go_wp2_with fail
        go_at_call 69
        (with_reducible refine hH1.out.mono ?_)
        rintro e w2 ⟨rfl, hb2⟩
        have B2 := Lib.hid (bt B1.out hb2)
        clear hb2 x0 x1 x2 zz
        go_wp2_with fail
        go_ret
        exact ⟨rfl, B2.out⟩
    · rw [decide_eq_true h1, decide_eq_false h2, Bool.and_false, Bool.false_and] at he
      subst he
      have h2' : 8 < l.segs := by omega
      go_wp2_with fail
      go_ret
      exact ⟨rfl, B0.out⟩
  · rw [decide_eq_false h1, Bool.false_and, Bool.false_and] at he
    subst he
    go_wp2_with fail
    go_ret
    exact ⟨rfl, B0.out⟩
def whyI (l : L) (s : Int) : Int := if l.ok = true then (if 0 ≤ s ∧ s < l.segs then 0 else 3) else 1
set_option maxHeartbeats 4000000 in
theorem o_check {l : L} {A : Option Addr} {c : Nat} {B : Option Addr} {d : Nat} {w : World} (hr : LanR w l A c B d) (hs : Small l) (s : Int) {er : Int} (he : whyI l s = er) :
    Calls Try.prog 48 #[lv l A c B d, .int .i64 s] w fun e w' => e = .returned (.int .i64 er) ∧ Below w.heap.size w w' := by
  obtain ⟨w0, hw0, X0, R0, B0⟩ := new3 w hr
  have HR := Lib.hid (fun q h => o_right (b := q) R0 hs h)
  replace X0 := Lib.hid X0
  replace B0 := Lib.hid B0
  replace R0 := Lib.hid R0
  clear hr hs
  go_enter Try.func48, Try.ntmps48
  go_upto_region 1 with fail
  rw [← hw0]
  clear hw0
  have x0 := X0.out.c (i := 0) rfl
  have x1 := X0.out.c (i := 1) rfl
  have x2 := X0.out.c (i := 2) rfl
  have zz := X0.out.lt
  unfold whyI at he
  obtain ⟨u, hu⟩ : ∃ u, l.ok = u := ⟨_, rfl⟩
  rw [hu] at he
  have hR := Lib.hid (HR.out u hu)
  replace hu := Lib.hid hu
  cases u
  · rw [if_neg (by simp)] at he
    subst he
    go_wp2_with fail
    go_at_call 39
    (with_reducible refine hR.out.mono ?_)
    rintro e w1 ⟨rfl, hb1⟩
    have B1 := Lib.hid (bt B0.out hb1)
    clear hb1 x0 x1 x2 zz
    go_wp2_with fail
    go_ret
    exact ⟨rfl, B1.out⟩
  · rw [if_pos rfl] at he
    obtain ⟨t, ht⟩ : ∃ t, (decide (0 ≤ s) && decide (s < l.segs)) = t := ⟨_, rfl⟩
    have hBl := Lib.hid (fun W => o_below s l.segs W ht)
    have he2 := Lib.hid (show er = if t = true then 0 else 3 by rw [← he, ← ht]; simp)
    replace ht := Lib.hid ht
    replace he := Lib.hid he
    go_wp2_with fail
    go_at_call 39
    (with_reducible refine hR.out.mono ?_)
    rintro e w1 ⟨rfl, hb1⟩
    have B1 := Lib.hid (bt B0.out hb1)
    have X1 := Lib.hid (X0.out.below hb1)
    clear hb1 x0 x1 x2 zz
    have x0 := X1.out.c (i := 0) rfl
    have zz := X1.out.lt
    go_wp2_with fail
    go_at_call 82
    (with_reducible refine (hBl.out _).mono ?_)
    rintro e w2 ⟨rfl, rfl⟩
    cases t
    all_goals
      go_wp2_with fail
      go_ret
      exact ⟨by cases he2.out; rfl, B1.out⟩
end Go.Proofs.Ytgcmklliafcffaa.LanP
