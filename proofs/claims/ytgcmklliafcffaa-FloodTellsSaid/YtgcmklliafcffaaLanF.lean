/-
  Contract of lan's portsOn.
-/
import Derived.Test.YtgcmklliafcffaaLanE
namespace Go.Proofs.Ytgcmklliafcffaa.LanP
open Go.RowKit Go.Sort Go.Proofs.Ytgcmklliafcffaa.SliceP Go.Proofs.Ytgcmklliafcffaa.BoxP
open Go.Proofs.Ytgcmklliafcffaa.IntP (RowI SlI OwnI)
open Go.Proofs.Ytgcmklliafcffaa.BoolP (RowB SlB OwnB)
open Go.Proofs.Ytgcmklliafcffaa.MacP (classI class_yes class_no ref_right_no ref_right_yes ref_class)
open Go.Proofs.Ytgcmklliafcffaa.LruP (hasI placeI has_more has_hit place_hit place_none place_geq has_true has_false)
set_option linter.unusedVariables false
set_option maxRecDepth 100000
theorem flat_succ {α : Type} (f : Nat → List α) (k : Nat) : (List.range (k + 1)).flatMap f = (List.range k).flatMap f ++ f k := by rw [List.range_succ, List.flatMap_append]; simp
def portAt (p : P) (s b : Int) (k : Nat) : List (Int × Int) := match p.ports[k]? with | some x => if (x.up && x.seg == s) = true then [(b, (k : Int))] else [] | none => []
def portsTo (p : P) (s b : Int) (m : Nat) : List (Int × Int) := (List.range m).flatMap (portAt p s b)
def portsRow (l : List P) (s : Int) (b : Nat) : List (Int × Int) := match l[b]? with | some p => portsTo p s b p.ports.length | none => []
def portsOf (l : List P) (s : Int) : List (Int × Int) := (List.range l.length).flatMap (portsRow l s)
set_option maxHeartbeats 8000000 in
theorem o_portson {A : Option Addr} {c : Nat} {l : List P} {w : World} (hr : RowP w A l.length c l) (hl : l.length ≤ 1000) (hp : ∀ p ∈ l, p.ports.length ≤ 10) (s : Int) : Calls Try.prog 50 #[.slice A l.length c, .int .i64 s] w (Ret ec 33 2 w (portsOf l s)) := by
  have H := Lib.hid hr
  replace hp := Lib.hid hp
  clear hr
  go_enter Try.func50, Try.ntmps50
  go_wp2_with fail
  go_loopw [5, 12] (fun v i wr => ∃ (k : Nat) (L : List (Int × Int)), k ≤ l.length ∧ i = .int .i64 k ∧ L = (List.range k).flatMap (portsRow l s) ∧ L.length ≤ k * 10 ∧ Own wr w.heap.size 33 2 v (L.map ec) ∧ Below w.heap.size w wr) (fun _ i _ => l.length - (intOf i).toNat)
  case atStart => exact ⟨0, [], by omega, rfl, rfl, by simp, Own.nil _ _ _ _, Below.refl _ _⟩
  case round =>
    obtain ⟨k, L, hk, rfl, hL, hlen, hown, hb⟩ := hrel
    obtain ⟨A3, c3, hv3⟩ := own_form hown
    subst hv3
    by_cases hkn : k < l.length
    · have hkl : (k : Int) < (l.length : Int) := by omega
      obtain ⟨x, hx⟩ : ∃ x, l[k]? = some x := ⟨_, List.getElem?_eq_getElem hkn⟩
      obtain ⟨bS8, oS8, A8, c8, hAS8, hbS8, q8_0, q8_1, hrow8⟩ := RowP.at_ H.out hx
      subst hAS8
      replace q8_0 := (hb.cell (p := ⟨bS8, _, none⟩) hbS8).trans q8_0
      replace q8_1 := (hb.cell (p := ⟨bS8, _, none⟩) hbS8).trans q8_1
      replace hbS8 := Nat.lt_of_lt_of_le hbS8 hb.size
      obtain ⟨w8, hw8⟩ : ∃ W, W = wr.alloc (.cells #[.int .i64 x.id, .slice A8 x.ports.length c8] 60) := ⟨_, rfl⟩
      have bb8 : Below wr.heap.size wr w8 := by rw [hw8]; exact (Below.refl _ _).alloc (Nat.le_refl _) _
      have b8 := Lib.hid (bt hb bb8)
      have X8 := Lib.hid (show Bx w8 wr.heap.size 60 #[.int .i64 x.id, .slice A8 x.ports.length c8] by rw [hw8]; exact Bx.new _ _ _ rfl)
      have R8 := Lib.hid hrow8
      clear hrow8
      have hs := flat_succ (portsRow l s) k
      rw [← hL, show portsRow l s k = portsTo x s k x.ports.length by unfold portsRow; rw [hx]] at hs
      have hpx := hp.out x (List.mem_of_getElem? hx)
      have own8 := Lib.hid (hown.below bb8)
      replace hL := Lib.hid hL
      clear hown
      replace hx := Lib.hid hx
      clear hb bb8
      go_upto_region 5 with fail
      rw [← hw8]
      clear hw8 q8_0 q8_1 hbS8
      have o8_0 := X8.out.c (i := 0) rfl
      have o8_1 := X8.out.c (i := 1) rfl
      have zz8 := X8.out.lt
      replace hs := Lib.hid hs
      go_wp2_with fail
      clear o8_0 o8_1 zz8
      go_loopw [5, 20] (fun v i wi => ∃ (j : Nat) (L2 : List (Int × Int)), j ≤ x.ports.length ∧ i = .int .i64 j ∧ L2 = L ++ portsTo x s k j ∧ L2.length ≤ k * 10 + j ∧ Own wi w.heap.size 33 2 v (L2.map ec) ∧ Below w.heap.size w wi) (fun _ i _ => x.ports.length - (intOf i).toNat)
      case atStart => exact ⟨0, L, by omega, rfl, by unfold portsTo; simp, by omega, own8.out, b8.out⟩
      case round =>
        clear own8 b8
        obtain ⟨j, L2, hj, rfl, hL2, hlen2, hown, hb⟩ := hrel
        obtain ⟨A4, c4, hv4⟩ := own_form hown
        subst hv4
        have hlenL := Lib.hid (show L2.length ≤ 100000 by omega)
        by_cases hjn : j < x.ports.length
        · have hjl : (j : Int) < (x.ports.length : Int) := by omega
          obtain ⟨y, hy⟩ : ∃ y, x.ports[j]? = some y := ⟨_, List.getElem?_eq_getElem hjn⟩
          obtain ⟨bS7, oS7, hAS7, hbS7, q7_0, q7_1, q7_2⟩ := Row.kat (R8.out.below hb) hy
          subst hAS7
          obtain ⟨w7, hw7⟩ : ∃ W, W = wr.alloc (.cells #[.int .i64 y.seg, .int .i64 y.cost, .bool y.up] 57) := ⟨_, rfl⟩
          have bb7 : Below wr.heap.size wr w7 := by rw [hw7]; exact (Below.refl _ _).alloc (Nat.le_refl _) _
          have b7 := Lib.hid (bt hb bb7)
          have X7 := Lib.hid (show Bx w7 wr.heap.size 57 #[.int .i64 y.seg, .int .i64 y.cost, .bool y.up] by rw [hw7]; exact Bx.new _ _ _ rfl)
          have hs2 := flat_succ (portAt x s k) j
          rw [show portAt x s k j = if (y.up && y.seg == s) = true then [((k : Int), (j : Int))] else [] by unfold portAt; rw [hy]] at hs2
          have own7 := Lib.hid (hown.below bb7)
          clear hown
          replace hy := Lib.hid hy
          clear hb bb7
          go_upto_region 8 with fail
          rw [← hw7]
          clear hw7 q7_0 q7_1 q7_2 hbS7
          have o7_0 := X7.out.c (i := 0) rfl
          have o7_1 := X7.out.c (i := 1) rfl
          have o7_2 := X7.out.c (i := 2) rfl
          have zz7 := X7.out.lt
          cases hq1 : y.up
          · rw [hq1, Bool.false_and, if_neg (by simp), List.append_nil] at hs2
            rw [hq1] at o7_2
            have hs3 := Lib.hid (show L2 = L ++ portsTo x s k (j + 1) by rw [hL2]; unfold portsTo; rw [hs2])
            replace hL2 := Lib.hid hL2
            replace hq1 := Lib.hid hq1
            clear hs2
            go_wp2_with fail
            go_roundw
            case rel => exact ⟨j + 1, L2, by omega, by go_num, hs3.out, by omega, own7.out, b7.out⟩
            case measure => simp [intOf]; omega
          · rw [hq1, Bool.true_and] at hs2
            rw [hq1] at o7_2
            replace hq1 := Lib.hid hq1
            cases hq2 : (y.seg == s)
            · rw [hq2, if_neg (by simp), List.append_nil] at hs2
              have hs3 := Lib.hid (show L2 = L ++ portsTo x s k (j + 1) by rw [hL2]; unfold portsTo; rw [hs2])
              replace hL2 := Lib.hid hL2
              clear hs2
              go_wp2_with fail
              go_roundw
              case rel => exact ⟨j + 1, L2, by omega, by go_num, hs3.out, by omega, own7.out, b7.out⟩
              case measure => simp [intOf]; omega
            · rw [hq2, if_pos rfl] at hs2
              have hs3 := Lib.hid (show L2 ++ [((k : Int), (j : Int))] = L ++ portsTo x s k (j + 1) by rw [hL2]; unfold portsTo; rw [hs2, List.append_assoc])
              replace hL2 := Lib.hid hL2
              clear hs2
              obtain ⟨w9, hw9⟩ : ∃ W, W = w7.alloc (.cells #[.int .i64 k, .int .i64 j] 33) := ⟨_, rfl⟩
              have b9 : Below w7.heap.size w7 w9 := by rw [hw9]; exact (Below.refl _ _).alloc (Nat.le_refl _) _
              have hsl := Lib.hid (show Sl w9 2 (some ⟨w7.heap.size, 0, none⟩) ([((k : Int), (j : Int))].map ec) from bx_sl (T := 33) (vals := #[.int .i64 k, .int .i64 j]) (by rw [hw9]; exact Bx.new _ _ _ rfl) rfl (by intro c hc; simp at hc; subst hc; rfl))
              have own9 := Lib.hid (own7.out.below b9)
              have hb9 := Lib.hid (bt b7.out b9)
              have hn1 : Hid ((L2.map ec).length + ([((k : Int), (j : Int))].map ec).length ≤ 1000000) := Lib.hid (by rw [List.length_map]; have := hlenL.out; simp; omega)
              have hvl : Hid ((L2.map ec).length = L2.length) := Lib.hid (by rw [List.length_map])
              have hB2 : Hid (w.heap.size ≤ w9.heap.size) := Lib.hid hb9.out.size
              clear b9
              go_wp2_with (at_builtin; rw [← hw9]; (refine wpList_append_sl rfl (.tmp 33) (.tmp 37) 53 rfl elE (by rfl) own9.out (by rfl) (by rfl) hsl.out (wholeE _) (fun h => by cases h) hn1.out hB2.out ?_); intro v' w4 own1 grow1 _)
              have b4 : Below w.heap.size w w4 := hb9.out.grown grow1 hb9.out.size (fun j hj => (own9.out.lt j hj).1)
              go_roundw
              case rel => exact ⟨j + 1, L2 ++ [((k : Int), (j : Int))], by omega, by go_num, hs3.out, by rw [List.length_append]; simp; omega, own_snoc own1, b4⟩
              case measure => simp [intOf]; omega
        · obtain rfl : j = x.ports.length := by omega
          rw [← hs.out] at hL2
          replace hL2 := Lib.hid hL2
          replace hown := Lib.hid hown
          replace hb := Lib.hid hb
          go_wp2_with fail
          go_roundw
          case rel => exact ⟨k + 1, L2, by omega, by go_num, hL2.out, by omega, hown.out, hb.out⟩
          case measure => simp [intOf]; omega
    · obtain rfl : k = l.length := by omega
      obtain rfl : L = portsOf l s := hL
      replace hown := Lib.hid hown
      replace hb := Lib.hid hb
      go_wp2_with fail
      go_ret
      exact ⟨A3, c3, rfl, hown.out, hb.out⟩
end Go.Proofs.Ytgcmklliafcffaa.LanP
