/-
  Contracts of footwayref15's next, Part.
-/
import Derived.Test.YtoaabdejbipamaaLanT
import Derived.Test.YtoaabdejbipamaaLanP
import Derived.Test.YtoaabdejbipamaaLanK
import Derived.BigRegion
namespace Go.Proofs.Ytoaabdejbipamaa.LanP
open Go.RowKit Go.Sort Go.Proofs.Ytoaabdejbipamaa.SliceP Go.Proofs.Ytoaabdejbipamaa.BoxP
open Go.Proofs.Ytoaabdejbipamaa.IntP (RowI SlI OwnI)
open Go.Proofs.Ytoaabdejbipamaa.BoolP (RowB SlB OwnB)
open Go.Proofs.Ytoaabdejbipamaa.MacP (classI class_yes class_no ref_right_no ref_right_yes ref_class)
open Go.Proofs.Ytoaabdejbipamaa.LruP (hasI placeI has_more has_hit place_hit place_none place_geq has_true has_false ref_has_is)
set_option linter.unusedVariables false
set_option maxRecDepth 100000
theorem map_set {n : Nat} (F : Nat → Bool) (s : Nat) (v : Bool) : ((List.range n).map F).set s v = (List.range n).map fun u => if u = s then v else F u := by
  refine List.ext_getElem (by simp) fun i h1 h2 => ?_
  rw [List.getElem_set]
  simp only [List.getElem_map, List.getElem_range]
  by_cases h : s = i
  · subst h; simp
  · rw [if_neg h, if_neg (Ne.symm h)]
theorem map_self (I : List Bool) : (List.range I.length).map (fun s => I.getD s false) = I := by
  refine List.ext_getElem (by simp) fun i h1 h2 => ?_
  simp only [List.getElem_map, List.getElem_range]
  rw [List.getD_eq_getElem?_getD, List.getElem?_eq_getElem h2]; rfl
/-- A row, behind some bridges, and some segments of the next one. -/
def nxF (ps : List P) (I : List Bool) (k : Nat) (s : Nat) : Bool := I.getD s false || (ps.take k).any fun p => smP I p && joins p (s : Int)
theorem nxF_succ {ps : List P} {I : List Bool} {k : Nat} {p : P} (hp : ps[k]? = some p) (s : Nat) : nxF ps I (k + 1) s = (nxF ps I k s || (smP I p && joins p (s : Int))) := by
  unfold nxF
  rw [List.take_add_one, hp, List.any_append, ← Bool.or_assoc]
  simp
theorem nxF_all (ps : List P) (I : List Bool) : (List.range I.length).map (nxF ps I ps.length) = nxt ps I := by unfold nxt nxF; rw [List.take_length]
theorem nxF_zero (ps : List P) (I : List Bool) : (List.range I.length).map (nxF ps I 0) = I := by
  have : nxF ps I 0 = fun s => I.getD s false := by funext s; unfold nxF; simp
  rw [this]; exact map_self I
def mid (F G : Nat → Bool) (s : Nat) (u : Nat) : Bool := if u < s then G u else F u
theorem mid_zero (F G : Nat → Bool) : mid F G 0 = F := by funext u; unfold mid; simp
theorem mid_succ (F G : Nat → Bool) (s n : Nat) : ((List.range n).map (mid F G s)).set s (G s) = (List.range n).map (mid F G (s + 1)) := by
  rw [map_set]
  refine List.map_congr_left fun u _ => ?_
  unfold mid
  by_cases h : u = s
  · subst h; rw [if_pos rfl, if_pos (by omega)]
  · rw [if_neg h]
    by_cases h2 : u < s
    · rw [if_pos h2, if_pos (by omega)]
    · rw [if_neg h2, if_neg (by omega)]
theorem mid_end {F G : Nat → Bool} {n : Nat} : (List.range n).map (mid F G n) = (List.range n).map G := List.map_congr_left fun u hu => by unfold mid; rw [if_pos (List.mem_range.1 hu)]
theorem mid_at {F G : Nat → Bool} {n s : Nat} (hs : s < n) : ((List.range n).map (mid F G s))[s]? = some (F s) := by
  rw [List.getElem?_map, List.getElem?_range hs]; unfold mid; simp
set_option maxHeartbeats 16000000 in
theorem r_next {l : L} {A : Option Addr} {c : Nat} {B : Option Addr} {d : Nat} {w : World} (hr : LanR w l A c B d) (hs : Small l) {C : Option Addr} {e : Nat} {I : List Bool} (hI : Row bc 1 w C I.length e I) (hl : I.length ≤ 100) (h0 : 0 < I.length) :
    Calls Try.prog 37 #[lv l A c B d, .slice C I.length e] w (Ret bc 4 1 w (nxt l.plans I)) := by
  have HI := Lib.hid hI
  have H := Lib.hid hr.plans
  have HS := Lib.hid hs
  clear hI
  obtain ⟨w0, hw0, X0, R0, B0⟩ := new3 w hr
  replace X0 := Lib.hid X0
  replace B0 := Lib.hid B0
  clear hr hs R0
  obtain ⟨g1, hg1⟩ : ∃ g, g = w.heap.size + 1 := ⟨_, rfl⟩
  obtain ⟨w1, hw1⟩ : ∃ W, W = w0.alloc (.cells #[] 4) := ⟨_, rfl⟩
  have bb1 : Below w0.heap.size w0 w1 := by rw [hw1]; exact (Below.refl _ _).alloc (Nat.le_refl _) _
  have B1 := Lib.hid (bt B0.out bb1)
  have X1 := Lib.hid (X0.out.below bb1)
  have O1 := Lib.hid (show Own w1 w0.heap.size 4 1 (.slice (some ⟨g1, 0, none⟩) 0 0) [] by rw [hw1, hg1, show w.heap.size + 1 = w0.heap.size by rw [hw0]; simp]; exact own_lit0 w0 _ _)
  have I1 := Lib.hid (HI.out.below B1.out)
  have hn1 := Lib.hid (show (([] : List (List Value)).length + (I.map bc).length ≤ 1000000) by simp; omega)
  have hB2 := Lib.hid (show w0.heap.size ≤ w1.heap.size from bb1.size)
  have hw00 := Lib.hid (show w.heap.size < w0.heap.size from X0.out.lt)
  have hCn := Lib.hid HI.out.nil
  clear bb1
  go_enter Try.func37, Try.ntmps37
  go_upto_region 2 with fail
  rw [← hw0, ← hw1, ← hg1]
  clear hw0 hw1
  replace hg1 := Lib.hid hg1
  go_wp2_with (at_builtin; (refine wpList_append_sl rfl (.tmp 13) (.tmp 14) 67 rfl BoolP.elB (by rfl) O1.out (by rfl) (by rw [List.length_map]) I1.out.sl (wholeB _) hCn.out hn1.out hB2.out ?_); intro v' w4 own1 grow1 _; rw [List.nil_append] at own1; have B4 := Lib.hid (show Below w.heap.size w w4 from B1.out.grown grow1 B1.out.size (fun j hj => by have := (O1.out.lt j hj).1; have := hw00.out; omega)); have X4 := Lib.hid (X1.out.grown grow1 (fun e => by have := (O1.out.lt _ e.symm).1; have := hw00.out; omega)); obtain ⟨A4, c4, rfl⟩ := own_form own1; obtain ⟨g4, rfl, hg4, _⟩ := own_ptr own1 (by intro h; rw [List.map_eq_nil_iff] at h; rw [h] at h0; simp at h0); replace hg4 := Lib.hid hg4; have O4 := Lib.hid own1; clear own1 grow1; have x1 := X4.out.c (i := 1) rfl; have zz := X4.out.lt)
  clear x1 zz
  go_loopw [19] (fun i wr => ∃ k : Nat, k ≤ l.plans.length ∧ i = .int .i64 k ∧ Own wr w0.heap.size 4 1 (.slice (some ⟨g4, 0, none⟩) I.length c4) (((List.range I.length).map (nxF l.plans I k)).map bc) ∧ Below w.heap.size w wr) (fun i _ => l.plans.length - (intOf i).toNat)
  case atStart => exact ⟨0, by omega, rfl, by rw [nxF_zero]; exact O4.out, B4.out⟩
  case round =>
    clear O4 B4 X4
    obtain ⟨k, hk, rfl, hown, hb⟩ := hrel
    obtain ⟨wo, hwo⟩ : ∃ W, W = wr := ⟨_, rfl⟩
    subst hwo
    have hl8 := HS.out.plans
    by_cases hkn : k < l.plans.length
    · have hkl : (k : Int) < (l.plans.length : Int) := by omega
      obtain ⟨x, hx⟩ : ∃ x, l.plans[k]? = some x := ⟨_, List.getElem?_eq_getElem hkn⟩
      obtain ⟨bS8, oS8, A8, c8, hAS8, hbS8, q8_0, q8_1, hrow8⟩ := RowP.at_ H.out hx
      subst hAS8
      replace q8_0 := (hb.cell (p := ⟨bS8, _, none⟩) hbS8).trans q8_0
      replace q8_1 := (hb.cell (p := ⟨bS8, _, none⟩) hbS8).trans q8_1
      replace hbS8 := Nat.lt_of_lt_of_le hbS8 hb.size
      obtain ⟨w8, hw8⟩ : ∃ W, W = wo.alloc (.cells #[.int .i64 x.id, .slice A8 x.ports.length c8] 49) := ⟨_, rfl⟩
      have bb8 : Below wo.heap.size wo w8 := by rw [hw8]; exact (Below.refl _ _).alloc (Nat.le_refl _) _
      have b8 := Lib.hid (bt hb bb8)
      have X8 := Lib.hid (show Bx w8 wo.heap.size 49 #[.int .i64 x.id, .slice A8 x.ports.length c8] by rw [hw8]; exact Bx.new _ _ _ rfl)
      have R8 := Lib.hid hrow8
      clear hrow8
      have hpx := HS.out.ports x (List.mem_of_getElem? hx)
      have hnx := Lib.hid fun s => nxF_succ (I := I) hx s
      have own8 := Lib.hid (hown.below bb8)
      have hwg := Lib.hid (show w0.heap.size ≤ wo.heap.size by have := (hown.lt _ rfl).1; have := (hown.lt _ rfl).2; omega)
      have hgo := Lib.hid (show g4 < wo.heap.size from (hown.lt _ rfl).2)
      clear hown
      replace hx := Lib.hid hx
      clear hb bb8
      go_upto_region 6 with fail
      rw [← hw8]
      clear hw8 q8_0 q8_1 hbS8
      have o8_0 := X8.out.c (i := 0) rfl
      have o8_1 := X8.out.c (i := 1) rfl
      have zz8 := X8.out.lt
      have hJ := Lib.hid (fun W (hW : Below w.heap.size w W) s b h => r_joins (s := s) (b := b) (R8.out.below hW) (by omega) h)
      go_wp2_with fail
      clear o8_0 o8_1 zz8
      have hsm0 : smP I x = (List.range I.length).any (fun t => I.getD t false && joins x (t : Int)) := rfl
      go_loopw [8, 25] (fun v i wr => ∃ j : Nat, j ≤ I.length ∧ i = .int .i64 j ∧ v = .bool ((List.range j).any fun t => I.getD t false && joins x (t : Int)) ∧ Below w8.heap.size w8 wr) (fun _ i _ => I.length - (intOf i).toNat)
      case atStart => exact ⟨0, by omega, rfl, rfl, Below.refl _ _⟩
      case round =>
        obtain ⟨j, hj, rfl, rfl, hb⟩ := hrel
        have Bw := Lib.hid (bt b8.out hb)
        by_cases hjn : j < I.length
        · have hjl : (j : Int) < (I.length : Int) := by omega
          obtain ⟨y, hy⟩ : ∃ y, I[j]? = some y := ⟨_, List.getElem?_eq_getElem hjn⟩
          obtain ⟨bI, oI, hCC, hbI, y0⟩ := (HI.out.below Bw.out).bat hy
          subst hCC
          have hst : (List.range (j + 1)).any (fun t => I.getD t false && joins x (t : Int)) = ((List.range j).any (fun t => I.getD t false && joins x (t : Int)) || (y && joins x (j : Int))) := by
            rw [List.range_succ, List.any_append]; simp [List.getD_eq_getElem?_getD, hy]
          obtain ⟨q, hq⟩ : ∃ q, ((List.range j).any fun t => I.getD t false && joins x (t : Int)) = q := ⟨_, rfl⟩
          rw [hq] at hst ⊢
          obtain ⟨z, hz⟩ : ∃ z, joins x (j : Int) = z := ⟨_, rfl⟩
          rw [hz] at hst
          have hJ1 := Lib.hid (hJ.out wr Bw.out (j : Int) z hz)
          have X7 := Lib.hid (X8.out.below hb)
          replace hq := Lib.hid hq
          replace hz := Lib.hid hz
          replace hy := Lib.hid hy
          have hb' := Lib.hid hb
          have p0 := X7.out.c (i := 0) rfl
          have p1 := X7.out.c (i := 1) rfl
          have pz := X7.out.lt
          clear hb
          cases q
          · cases y
            · replace hst := Lib.hid hst
              go_wp2_with fail
              go_roundw
              case rel => exact ⟨j + 1, by omega, by go_num, by rw [hst.out]; rfl, hb'.out⟩
              case measure => simp [intOf]; omega
            · replace hst := Lib.hid hst
              go_wp2_with fail
              go_at_call 48
              (with_reducible refine hJ1.out.mono ?_)
              rintro e w2 ⟨rfl, hb2⟩
              have b2 := Lib.hid (bt hb'.out hb2)
              clear hb2 p0 p1 pz y0 hbI
              go_wp2_with fail
              go_roundw
              case rel => exact ⟨j + 1, by omega, by go_num, by rw [hst.out]; rfl, b2.out⟩
              case measure => simp [intOf]; omega
          · replace hst := Lib.hid hst
            go_wp2_with fail
            go_roundw
            case rel => exact ⟨j + 1, by omega, by go_num, by rw [hst.out]; rfl, hb'.out⟩
            case measure => simp [intOf]; omega
        · obtain rfl : j = I.length := by omega
          rw [← hsm0]
          obtain ⟨sm, hsm⟩ : ∃ b, smP I x = b := ⟨_, rfl⟩
          rw [hsm]
          rw [hsm] at hnx
          have own9 := Lib.hid (own8.out.below hb)
          have X9 := Lib.hid (X8.out.below hb)
          have hgo9 := Lib.hid (show wo.heap.size < wr.heap.size from Nat.lt_of_lt_of_le X8.out.lt hb.size)
          have hG := Lib.hid (show (List.range I.length).map (nxF l.plans I (k + 1)) = (List.range I.length).map (fun s => nxF l.plans I k s || (sm && joins x (s : Int))) from List.map_congr_left fun s _ => hnx.out s)
          replace hsm := Lib.hid hsm
          obtain ⟨Fn, hFn⟩ : ∃ F, nxF l.plans I k = F := ⟨_, rfl⟩
          rw [hFn] at hG own9
          replace hFn := Lib.hid hFn
          obtain ⟨Gn, hGn⟩ : ∃ G, (fun s : Nat => Fn s || (sm && joins x (s : Int))) = G := ⟨_, rfl⟩
          rw [hGn] at hG
          replace hGn := Lib.hid hGn
          clear own8 b8 X8 hb hnx hsm0
          go_wp2_with fail
          obtain ⟨wp, hwp⟩ : ∃ W, W = wr := ⟨_, rfl⟩
          subst hwp
          go_loopw [42] (fun i wr => ∃ j : Nat, j ≤ I.length ∧ i = .int .i64 j ∧ Own wr w0.heap.size 4 1 (.slice (some ⟨g4, 0, none⟩) I.length c4) (((List.range I.length).map (mid Fn Gn j)).map bc) ∧ Bx wr wo.heap.size 49 #[.int .i64 x.id, .slice A8 x.ports.length c8] ∧ Below w.heap.size w wr) (fun i _ => I.length - (intOf i).toNat)
          case atStart => exact ⟨0, by omega, rfl, by rw [mid_zero]; exact own9.out, X9.out, Bw.out⟩
          case round =>
            clear own9 X9 Bw
            obtain ⟨j, hj, rfl, hown, hX, hb⟩ := hrel
            by_cases hjn : j < I.length
            · have hjl : (j : Int) < (I.length : Int) := by omega
              have hat : (((List.range I.length).map (mid Fn Gn j)).map bc)[j]? = some (bc (Fn j)) := by rw [List.getElem?_map, mid_at hjn]; rfl
              have y0 := own_cell hown (by decide) hat (i := 0) rfl
              rw [Nat.mul_one, Nat.add_zero] at y0
              obtain ⟨f0, fz⟩ := own_free hown j
              have hGj : Gn j = (Fn j || (sm && joins x (j : Int))) := by rw [← hGn.out]
              obtain ⟨q, hq⟩ : ∃ q, Fn j = q := ⟨_, rfl⟩
              obtain ⟨z, hz⟩ : ∃ z, joins x (j : Int) = z := ⟨_, rfl⟩
              rw [hq] at y0 hGj
              rw [hz] at hGj
              have hJ1 := Lib.hid (hJ.out wr hb (j : Int) z hz)
              have hput := Lib.hid (fun W (hW : Own W w0.heap.size 4 1 (.slice (some ⟨g4, 0, none⟩) I.length c4) (((List.range I.length).map (mid Fn Gn j)).map bc)) => show Own (W.setCell ⟨g4, j, none⟩ (.bool (Gn j))) w0.heap.size 4 1 (.slice (some ⟨g4, 0, none⟩) I.length c4) (((List.range I.length).map (mid Fn Gn (j + 1))).map bc) by
                have := own_put1 (j := j) hW (by rw [List.length_map, List.length_map, List.length_range]; exact hjn) (v := .bool (Gn j)) rfl
                rw [show [Value.bool (Gn j)] = bc (Gn j) from rfl, ← List.map_set, mid_succ] at this
                exact this)
              rw [hGj] at hput
              have hgw := Lib.hid (show w.heap.size ≤ g4 by have := hg4.out; have := hw00.out; omega)
              have hgx := Lib.hid (show wo.heap.size ≠ g4 by have := hgo.out; omega)
              replace hq := Lib.hid hq
              replace hz := Lib.hid hz
              replace hGj := Lib.hid hGj
              have O9 := Lib.hid hown
              have X9 := Lib.hid hX
              have B9 := Lib.hid hb
              have p0 := X9.out.c (i := 0) rfl
              have p1 := X9.out.c (i := 1) rfl
              have pz := X9.out.lt
              clear hown hX hb hat
              cases q
              · cases sm
                · go_wp2_with fail
                  go_roundw
                  case rel => exact ⟨j + 1, by omega, by go_num, hput.out _ O9.out, X9.out.other hgx.out _ _, B9.out.setCell hgw.out _⟩
                  case measure => simp [intOf]; omega
                · go_wp2_with fail
                  go_at_call 48
                  (with_reducible refine hJ1.out.mono ?_)
                  rintro e w2 ⟨rfl, hb2⟩
                  have b2 := Lib.hid (bt B9.out hb2)
                  have O2 := Lib.hid (O9.out.below hb2)
                  have X2 := Lib.hid (X9.out.below hb2)
                  have y2 := (hb2.cell (p := ⟨g4, j, none⟩) fz).trans y0
                  clear hb2 p0 p1 pz y0 f0
                  obtain ⟨f2, fz2⟩ := own_free O2.out j
                  go_wp2_with fail
                  go_roundw
                  case rel => exact ⟨j + 1, by omega, by go_num, hput.out _ O2.out, X2.out.other hgx.out _ _, b2.out.setCell hgw.out _⟩
                  case measure => simp [intOf]; omega
              · go_wp2_with fail
                go_roundw
                case rel => exact ⟨j + 1, by omega, by go_num, hput.out _ O9.out, X9.out.other hgx.out _ _, B9.out.setCell hgw.out _⟩
                case measure => simp [intOf]; omega
            · obtain rfl : j = I.length := by omega
              rw [mid_end, ← hG.out] at hown
              replace hown := Lib.hid hown
              replace hb := Lib.hid hb
              clear hX
              go_wp2_with fail
              go_roundw
              case rel => exact ⟨k + 1, by omega, by go_num, hown.out, hb.out⟩
              case measure => simp [intOf]; omega
    · obtain rfl : k = l.plans.length := by omega
      rw [nxF_all] at hown
      have hfin := Lib.hid (hown.base (Nat.le_of_lt hw00.out))
      have hlen := nxt_len l.plans I
      replace hb := Lib.hid hb
      clear hown
      go_wp2_with fail
      go_ret
      exact ⟨_, _, by rw [hlen]; rfl, by rw [hlen]; exact hfin.out, hb.out⟩
end Go.Proofs.Ytoaabdejbipamaa.LanP
