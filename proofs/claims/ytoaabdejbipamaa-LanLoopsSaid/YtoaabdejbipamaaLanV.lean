/-
  Contracts of footwayref15's Part, Parts, Loops.
-/
import Derived.Test.YtoaabdejbipamaaLanU
import Derived.BigRegion
namespace Go.Proofs.Ytoaabdejbipamaa.LanP
open Go.RowKit Go.Sort Go.Proofs.Ytoaabdejbipamaa.SliceP Go.Proofs.Ytoaabdejbipamaa.BoxP
open Go.Proofs.Ytoaabdejbipamaa.IntP (RowI SlI OwnI)
open Go.Proofs.Ytoaabdejbipamaa.BoolP (RowB SlB OwnB)
open Go.Proofs.Ytoaabdejbipamaa.MacP (classI class_yes class_no ref_right_no ref_right_yes ref_class)
open Go.Proofs.Ytoaabdejbipamaa.LruP (hasI placeI has_more has_hit place_hit place_none place_geq has_true has_false ref_has_is)
set_option linter.unusedVariables false
set_option maxRecDepth 100000
def startTo (s : Int) (k : Nat) : List Bool := (List.range k).map fun u : Nat => ((u : Int) == s)
theorem startTo_succ (s : Int) (k : Nat) : startTo s (k + 1) = startTo s k ++ [((k : Int) == s)] := by unfold startTo; rw [List.range_succ, List.map_append]; rfl
def truesTo (I : List Bool) (k : Nat) : List Int := ((List.range k).map Int.ofNat).filter fun s => I.getD s.toNat false
theorem truesTo_succ (I : List Bool) {k : Nat} {y : Bool} (hy : I[k]? = some y) : truesTo I (k + 1) = truesTo I k ++ if y = true then [(k : Int)] else [] := by
  unfold truesTo
  rw [List.range_succ, List.map_append, List.filter_append]
  congr 1
  simp only [List.map_cons, List.map_nil, List.filter_cons, List.filter_nil, Int.ofNat_eq_natCast, Int.toNat_natCast, List.getD_eq_getElem?_getD, hy, Option.getD_some]
theorem truesTo_len (I : List Bool) (k : Nat) : (truesTo I k).length ≤ k := by
  unfold truesTo
  have := List.length_filter_le (fun s : Int => I.getD s.toNat false) ((List.range k).map Int.ofNat)
  simpa using this
set_option maxHeartbeats 16000000 in
theorem r_part {l : L} {A : Option Addr} {c : Nat} {B : Option Addr} {d : Nat} {w : World} (hr : LanR w l A c B d) (hs : Small l) (hf : l.fit) (h8 : l.n ≤ 8) {s : Nat} (hsn : s < l.n) :
    Calls Try.prog 22 #[lv l A c B d, .int .i64 (s : Int)] w (Ret ic 3 1 w (l.part s)) := by
  have hn : (l.n : Int) = l.segs := by have := hf.1; unfold L.n; omega
  have H := Lib.hid hr
  have HS := Lib.hid hs
  obtain ⟨w0, hw0, X0, R0, B0⟩ := new3 w hr
  replace X0 := Lib.hid X0
  replace B0 := Lib.hid B0
  clear hr hs R0
  obtain ⟨g1, hg1⟩ : ∃ g, g = w.heap.size + 1 := ⟨_, rfl⟩
  obtain ⟨w1, hw1⟩ : ∃ W, W = w0.alloc (.cells #[] 4) := ⟨_, rfl⟩
  have bb1 : Below w0.heap.size w0 w1 := by rw [hw1]; exact (Below.refl _ _).alloc (Nat.le_refl _) _
  have B1 := Lib.hid (bt B0.out bb1)
  have X1 := Lib.hid (X0.out.below bb1)
  have O1 := Lib.hid (show Own w1 w0.heap.size 4 1 (.slice (some ⟨g1, 0, none⟩) 0 0) [] by rw [hw1, hg1, show w.heap.size + 1 = w0.heap.size by rw [hw0]; simp]; exact own_lit0 w0 _ _)
  have hw00 := Lib.hid (show w.heap.size < w0.heap.size from X0.out.lt)
  have hw01 := Lib.hid (show w0.heap.size ≤ w1.heap.size from bb1.size)
  clear bb1
  go_enter Try.func22, Try.ntmps22
  go_upto_region 2 with fail
  rw [← hw0, ← hw1, ← hg1]
  clear hw0 hw1
  replace hg1 := Lib.hid hg1
  go_wp2_with fail
  go_loopw [5, 6] (fun v i wr => ∃ k : Nat, k ≤ l.n ∧ i = .int .i64 k ∧ Own wr w0.heap.size 4 1 v ((startTo (s : Int) k).map bc) ∧ w0.heap.size ≤ wr.heap.size ∧ Bx wr w.heap.size 25 #[.int .i64 l.segs, .slice A l.plans.length c, .slice B l.hosts.length d] ∧ Below w.heap.size w wr) (fun _ i _ => l.n - (intOf i).toNat)
  case atStart => exact ⟨0, by omega, rfl, O1.out, hw01.out, X1.out, B1.out⟩
  case round =>
    clear O1 X1 B1
    obtain ⟨k, hk, rfl, hown, hsz, hX, hb⟩ := hrel
    obtain ⟨A3, c3, hv3⟩ := own_form hown
    subst hv3
    have x0 := hX.c (i := 0) rfl
    have zz := hX.lt
    have hsl1 := startTo_succ (s : Int) k
    have hlenk : (startTo (s : Int) k).length = k := by unfold startTo; simp
    by_cases hkn : k < l.n
    · have hkl : (k : Int) < l.segs := by omega
      have hlenL := Lib.hid (show (startTo (s : Int) k).length ≤ 100 by omega)
      obtain ⟨q, hq⟩ : ∃ q, ((k : Int) == (s : Int)) = q := ⟨_, rfl⟩
      rw [hq] at hsl1
      obtain ⟨J, hJ⟩ : ∃ J, startTo (s : Int) k = J := ⟨_, rfl⟩
      rw [hJ] at hown hsl1 hlenL hlenk ⊢
      have own8 := Lib.hid hown
      have b8 := Lib.hid hb
      have X8 := Lib.hid hX
      have hsz8 := Lib.hid hsz
      replace hJ := Lib.hid hJ
      replace hsl1 := Lib.hid hsl1
      clear hown hX hb hsz
      obtain ⟨w9, hw9⟩ : ∃ W, W = wr.alloc (.cells #[.bool q] 4) := ⟨_, rfl⟩
      have b9 : Below wr.heap.size wr w9 := by rw [hw9]; exact (Below.refl _ _).alloc (Nat.le_refl _) _
      have hsl := Lib.hid (show Sl w9 1 (some ⟨wr.heap.size, 0, none⟩) ([q].map bc) from bx_sl (T := 4) (vals := #[.bool q]) (by rw [hw9]; exact Bx.new _ _ _ rfl) rfl (by intro c hc; simp at hc; subst hc; rfl))
      have own9 := Lib.hid (own8.out.below b9)
      have hb9 := Lib.hid (bt b8.out b9)
      have X9 := Lib.hid (X8.out.below b9)
      have hn1 : Hid ((J.map bc).length + ([q].map bc).length ≤ 1000000) := Lib.hid (by rw [List.length_map]; have := hlenL.out; simp; omega)
      have hvl : Hid ((J.map bc).length = J.length) := Lib.hid (by rw [List.length_map])
      have hB2 : Hid (w0.heap.size ≤ w9.heap.size) := Lib.hid (Nat.le_trans hsz8.out b9.size)
      clear b9
      go_wp2_with (at_builtin; rw [← hw9]; (refine wpList_append_sl rfl (.tmp 18) (.tmp 22) 67 rfl BoolP.elB (by rfl) own9.out (by rfl) (by rfl) hsl.out (wholeB _) (fun h => by cases h) hn1.out hB2.out ?_); intro v' w4 own1 grow1 _; clear x0 zz)
      have hgr : ∀ j, (Value.slice A3 J.length c3).ownBlock = some j → w0.heap.size ≤ j := fun j hj => (own9.out.lt j hj).1
      have b4 : Below w.heap.size w w4 := hb9.out.grown grow1 hb9.out.size (fun j hj => by have := hgr j hj; have := hw00.out; omega)
      have X4 := X9.out.grown grow1 (fun e => by have := hgr _ e.symm; have := hw00.out; omega)
      have hsz4 := Nat.le_trans hB2.out grow1.size
      go_roundw
      case rel => exact ⟨k + 1, by omega, by go_num, by rw [hsl1.out]; exact own_snoc own1, hsz4, X4, b4⟩
      case measure => simp [intOf]; omega
    · obtain rfl : k = l.n := by omega
      have hkl : ¬ ((l.n : Int) < l.segs) := by omega
      rw [hlenk] at hown ⊢
      have R1 := Row.own hown (by decide)
      rw [show startTo (s : Int) l.n = l.iter (s : Int) 0 from rfl] at R1
      replace R1 := Lib.hid R1
      have X1 := Lib.hid hX
      have B1 := Lib.hid hb
      clear hown hX hb hsl1 hlenk
      go_wp2_with fail
      clear x0 zz
      go_loopw [5, 7] (fun v i wr => ∃ k : Nat, k ≤ l.n ∧ i = .int .i64 k ∧ (∃ A5 c5, v = .slice A5 l.n c5 ∧ Row bc 1 wr A5 l.n c5 (l.iter (s : Int) k)) ∧ Bx wr w.heap.size 25 #[.int .i64 l.segs, .slice A l.plans.length c, .slice B l.hosts.length d] ∧ Below w.heap.size w wr) (fun _ i _ => l.n - (intOf i).toNat)
      case atStart => exact ⟨0, by omega, rfl, ⟨_, _, rfl, R1.out⟩, X1.out, B1.out⟩
      case round =>
        clear R1 X1 B1
        obtain ⟨k, hk, rfl, ⟨A5, c5, hv5, hR⟩, hX, hb⟩ := hrel
        subst hv5
        have x0 := hX.c (i := 0) rfl
        have x1 := hX.c (i := 1) rfl
        have x2 := hX.c (i := 2) rfl
        have zz := hX.lt
        have hil := iter_len l (s : Int) k
        by_cases hkn : k < l.n
        · have hkl2 : (k : Int) < l.segs := by omega
          have hR' : Row bc 1 wr A5 (l.iter (s : Int) k).length c5 (l.iter (s : Int) k) := by rw [hil]; exact hR
          have hN := r_next (H.out.below hb) HS.out hR' (by omega) (by omega)
          rw [hil] at hN
          replace hN := Lib.hid hN
          have hnl := nxt_len l.plans (l.iter (s : Int) k)
          rw [hil] at hnl
          have X8 := Lib.hid hX
          have b8 := Lib.hid hb
          clear hX hb hR hR' hil
          go_wp2_with fail
          go_at_call 37
          (with_reducible refine hN.out.mono ?_)
          rintro e w2 ⟨A6, c6, rfl, o6, hb2⟩
          have R6 := Row.own o6 (by decide)
          rw [hnl] at R6 ⊢
          replace R6 := Lib.hid R6
          have X2 := Lib.hid (X8.out.below hb2)
          have b2 := Lib.hid (bt b8.out hb2)
          clear hb2 o6 x0 x1 x2 zz
          go_wp2_with fail
          go_roundw
          case rel => exact ⟨k + 1, by omega, by go_num, ⟨_, _, rfl, R6.out⟩, X2.out, b2.out⟩
          case measure => simp [intOf]; omega
        · obtain rfl : k = l.n := by omega
          have hT : trues (l.iter (s : Int) l.n) = l.part s := trues_part hf hsn
          obtain ⟨I, hI⟩ : ∃ I, l.iter (s : Int) l.n = I := ⟨_, rfl⟩
          rw [hI] at hR hT hil
          have hT2 : truesTo I l.n = l.part s := by rw [← hT]; unfold truesTo trues; rw [hil]
          obtain ⟨wz, hwz⟩ : ∃ W, W = wr.alloc (.cells #[] 3) := ⟨_, rfl⟩
          have bz : Below wr.heap.size wr wz := by rw [hwz]; exact (Below.refl _ _).alloc (Nat.le_refl _) _
          have Oz := Lib.hid (show Own wz wr.heap.size 3 1 (.slice (some ⟨wr.heap.size, 0, none⟩) 0 0) [] by rw [hwz]; exact own_lit0 wr _ _)
          have Bz := Lib.hid bz
          have RI := Lib.hid hR
          have Bw := Lib.hid hb
          replace hT := Lib.hid hT
          replace hI := Lib.hid hI
          replace hT2 := Lib.hid hT2
          replace hil := Lib.hid hil
          have hwy := Lib.hid (show w.heap.size ≤ wr.heap.size from hb.size)
          clear hX hb hR bz
          obtain ⟨wy, hwy9⟩ : ∃ W, W = wr := ⟨_, rfl⟩
          subst hwy9
          go_upto_region 11 with fail
          rw [← hwz]
          clear hwz x0 x1 x2 zz
          replace hn := Lib.hid hn
          clear hkl
          go_wp2_with fail
          go_loopw [8, 36] (fun v i wr => ∃ (k : Nat) (L : List Int), k ≤ l.n ∧ i = .int .i64 k ∧ L = truesTo I k ∧ Own wr wy.heap.size 3 1 v (L.map ic) ∧ Below wy.heap.size wy wr) (fun _ i _ => l.n - (intOf i).toNat)
          case atStart => exact ⟨0, [], by omega, rfl, rfl, Oz.out, Bz.out⟩
          case round =>
            clear Oz Bz
            obtain ⟨k, L, hk, rfl, hL, hown, hb⟩ := hrel
            obtain ⟨A7, c7, hv7⟩ := own_form hown
            subst hv7
            have hlenL := Lib.hid (show L.length ≤ 100 by rw [hL]; have := truesTo_len I k; omega)
            by_cases hkn : k < l.n
            · have hkl3 : (k : Int) < (l.n : Int) := by omega
              obtain ⟨y, hy⟩ : ∃ y, I[k]? = some y := ⟨_, List.getElem?_eq_getElem (by rw [hil.out]; exact hkn)⟩
              obtain ⟨bI, oI, hCC, hbI, y0⟩ := (RI.out.below hb).bat hy
              subst hCC
              have hs2 := truesTo_succ I hy
              rw [← hL] at hs2
              replace hL := Lib.hid hL
              replace hy := Lib.hid hy
              have own8 := Lib.hid hown
              have b8 := Lib.hid hb
              clear hown hb
              cases y
              · rw [if_neg (by simp), List.append_nil] at hs2
                replace hs2 := Lib.hid hs2
                go_wp2_with fail
                go_roundw
                case rel => exact ⟨k + 1, L, by omega, by go_num, hs2.out.symm, own8.out, b8.out⟩
                case measure => simp [intOf]; omega
              · rw [if_pos rfl] at hs2
                replace hs2 := Lib.hid hs2
                obtain ⟨w9, hw9⟩ : ∃ W, W = wr.alloc (.cells #[.int .i64 k] 3) := ⟨_, rfl⟩
                have b9 : Below wr.heap.size wr w9 := by rw [hw9]; exact (Below.refl _ _).alloc (Nat.le_refl _) _
                have hsl := Lib.hid (show Sl w9 1 (some ⟨wr.heap.size, 0, none⟩) ([(k : Int)].map ic) from bx_sl (T := 3) (vals := #[.int .i64 k]) (by rw [hw9]; exact Bx.new _ _ _ rfl) rfl (by intro c hc; simp at hc; subst hc; rfl))
                have own9 := Lib.hid (own8.out.below b9)
                have hb9 := Lib.hid (bt b8.out b9)
                have hn1 : Hid ((L.map ic).length + ([(k : Int)].map ic).length ≤ 1000000) := Lib.hid (by rw [List.length_map]; have := hlenL.out; simp; omega)
                have hvl : Hid ((L.map ic).length = L.length) := Lib.hid (by rw [List.length_map])
                have hB2 : Hid (wy.heap.size ≤ w9.heap.size) := Lib.hid hb9.out.size
                clear b9
                go_wp2_with (at_builtin; rw [← hw9]; (refine wpList_append_sl rfl (.tmp 42) (.tmp 44) 31 rfl IntP.elI (by rfl) own9.out (by rfl) (by rfl) hsl.out (wholeI _) (fun h => by cases h) hn1.out hB2.out ?_); intro v' w4 own1 grow1 _; clear y0 hbI)
                have b4 : Below wy.heap.size wy w4 := hb9.out.grown grow1 hb9.out.size (fun j hj => (own9.out.lt j hj).1)
                go_roundw
                case rel => exact ⟨k + 1, L ++ [(k : Int)], by omega, by go_num, hs2.out.symm, own_snoc own1, b4⟩
                case measure => simp [intOf]; omega
            · obtain rfl : k = l.n := by omega
              obtain rfl : L = l.part s := hL.trans hT2.out
              have hfin := Lib.hid (hown.base hwy.out)
              have Bf := Lib.hid (bt Bw.out hb)
              clear hown hb
              go_wp2_with fail
              go_ret
              exact ⟨A7, c7, rfl, hfin.out, Bf.out⟩
end Go.Proofs.Ytoaabdejbipamaa.LanP
