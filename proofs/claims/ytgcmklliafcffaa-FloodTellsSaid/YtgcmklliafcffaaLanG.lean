/-
  Contract of lan's joined.
-/
import Derived.Test.YtgcmklliafcffaaLanF
import Derived.Test.YtgcmklliafcffaaRegLit
import Derived.Test.YtgcmklliafcffaaRegEnd
namespace Go.Proofs.Ytgcmklliafcffaa.LanP
open Go.Proofs.Ytgcmklliafcffaa.MacP (arr_out Wrote wp_region_ends outM)
open Go.RowKit Go.Sort Go.Proofs.Ytgcmklliafcffaa.SliceP Go.Proofs.Ytgcmklliafcffaa.BoxP
open Go.Proofs.Ytgcmklliafcffaa.IntP (RowI SlI OwnI)
open Go.Proofs.Ytgcmklliafcffaa.BoolP (RowB SlB OwnB)
open Go.Proofs.Ytgcmklliafcffaa.MacP (classI class_yes class_no ref_right_no ref_right_yes ref_class)
open Go.Proofs.Ytgcmklliafcffaa.LruP (hasI placeI has_more has_hit place_hit place_none place_geq has_true has_false)
set_option linter.unusedVariables false
set_option maxRecDepth 100000
def pairsOf (l : List P) : List (Int × Int) := l.flatMap fun p => adj (ups p)
theorem adj_short (l : List Int) : adj (l.take 1) = [] := by
  match l with
  | [] => rfl
  | x :: r => rfl
set_option maxHeartbeats 16000000 in
theorem o_joined {A : Option Addr} {c : Nat} {l : List P} {w : World} (hr : RowP w A l.length c l) (hl : l.length ≤ 1000) (hp : ∀ p ∈ l, p.ports.length ≤ 10) : Calls Try.prog 97 #[.slice A l.length c] w (Ret ec 33 2 w (pairsOf l)) := by
  have H := Lib.hid hr
  replace hp := Lib.hid hp
  clear hr
  go_enter Try.func97, Try.ntmps97
  go_wp2_with fail
  go_loopw [3, 10] (fun v i wr => ∃ (k : Nat) (L : List (Int × Int)), k ≤ l.length ∧ i = .int .i64 k ∧ L = pairsOf (l.take k) ∧ L.length ≤ k * 10 ∧ Own wr w.heap.size 33 2 v (L.map ec) ∧ Below w.heap.size w wr) (fun _ i _ => l.length - (intOf i).toNat)
  case atStart => exact ⟨0, [], by omega, rfl, rfl, by simp, Own.nil _ _ _ _, Below.refl _ _⟩
  case round =>
    obtain ⟨k, L, hk, rfl, hL, hlen, hown, hb⟩ := hrel
    obtain ⟨wo, hwo⟩ : ∃ W, W = wr := ⟨_, rfl⟩
    subst hwo
    obtain ⟨A3, c3, hv3⟩ := own_form hown
    subst hv3
    by_cases hkn : k < l.length
    · have hkl : (k : Int) < (l.length : Int) := by omega
      obtain ⟨x, hx⟩ : ∃ x, l[k]? = some x := ⟨_, List.getElem?_eq_getElem hkn⟩
      obtain ⟨bS8, oS8, A8, c8, hAS8, hbS8, q8_0, q8_1, hrow8⟩ := RowP.at_ H.out hx
      subst hAS8
      replace q8_0 := (hb.cell (p := ⟨bS8, _, none⟩) hbS8).trans q8_0
      replace q8_1 := (hb.cell (p := ⟨bS8, _, none⟩) hbS8).trans q8_1
      replace hbS8 := Nat.lt_of_lt_of_le hbS8 hb.size
      obtain ⟨w8, hw8⟩ : ∃ W, W = wo.alloc (.cells #[.int .i64 x.id, .slice A8 x.ports.length c8] 60) := ⟨_, rfl⟩
      have bb8 : Below wo.heap.size wo w8 := by rw [hw8]; exact (Below.refl _ _).alloc (Nat.le_refl _) _
      have b8 := Lib.hid (bt hb bb8)
      have X8 := Lib.hid (show Bx w8 wo.heap.size 60 #[.int .i64 x.id, .slice A8 x.ports.length c8] by rw [hw8]; exact Bx.new _ _ _ rfl)
      have R8 := Lib.hid hrow8
      clear hrow8
      have hs := fm_succ (fun p => adj (ups p)) hx
      rw [show (l.take k).flatMap (fun p => adj (ups p)) = L from hL.symm] at hs
      have hpx := hp.out x (List.mem_of_getElem? hx)
      have own8 := Lib.hid (hown.below bb8)
      replace hL := Lib.hid hL
      clear hown
      replace hx := Lib.hid hx
      clear hb bb8
      go_upto_region 5 with fail
      rw [← hw8]
      clear hw8 q8_0 q8_1 hbS8
      have o8_0 := X8.out.c (i := 0) rfl
      have o8_1 := X8.out.c (i := 1) rfl
      have zz8 := X8.out.lt
      replace hs := Lib.hid hs
      have hC := Lib.hid (o_segsof (R8.out.below b8.out) (by omega))
      have hul := ups_len x
      obtain ⟨u, hu⟩ : ∃ u, ups x = u := ⟨_, rfl⟩
      rw [hu] at hC hs hul
      replace hu := Lib.hid hu
      go_wp2_with fail
      go_at_call 124
      (with_reducible refine hC.out.mono ?_)
      rintro e w10 ⟨A5, c5, rfl, ou, hb10⟩
      have hRu := Lib.hid (Row.own ou (by decide))
      have hfar := Lib.hid (own_far ou)
      have own10 := Lib.hid (own8.out.below hb10)
      have b10 := Lib.hid (bt b8.out hb10)
      have hob0 := Lib.hid (show ∀ j, (Value.slice A3 L.length c3).ownBlock = some j → j < w8.heap.size ∨ w10.heap.size ≤ j from fun j hj => .inl (own8.out.lt j hj).2)
      have hmx1 : (if (u.length : Int) - 1 < 0 then (0 : Int) else (u.length : Int) - 1) = ((u.length - 1 : Nat) : Int) := by split <;> omega
      have hmx2 : max ((u.length : Int) - 1) 0 = ((u.length - 1 : Nat) : Int) := by omega
      have hmx3 : (if (u.length : Int) - 1 < 0 then (0 : Int) else (u.length : Int) - 1) = ((u.length - 1 : Nat) : Int) := by split <;> omega
      have hwl := IntWalk.wrap64_in ((u.length : Int) - 1) (by omega)
      clear o8_0 o8_1 zz8 hb10 ou b8 hC
      go_wp2_with fail
      go_loopw [3, 20] (fun v i wi => ∃ (j : Nat) (L2 : List (Int × Int)), j ≤ u.length - 1 ∧ i = .int .i64 j ∧ L2 = L ++ adj (u.take (j + 1)) ∧ L2.length ≤ k * 10 + j ∧ Own wi w.heap.size 33 2 v (L2.map ec) ∧ (∀ j, v.ownBlock = some j → j < w8.heap.size ∨ w10.heap.size ≤ j) ∧ Row ic 1 wi A5 u.length c5 u ∧ w10.heap.size ≤ wi.heap.size ∧ Below w.heap.size w wi) (fun _ i _ => u.length - 1 - (intOf i).toNat)
      case atStart => exact ⟨0, L, by omega, rfl, by rw [Nat.zero_add, adj_short, List.append_nil], by omega, own10.out, hob0.out, hRu.out, Nat.le_refl _, b10.out⟩
      case round =>
        clear own8 b10 own10 hRu hob0
        obtain ⟨j, L2, hj, rfl, hL2, hlen2, hown, hob, hRi, hsi, hbi⟩ := hrel
        obtain ⟨A4, c4, hv4⟩ := own_form hown
        subst hv4
        have hlenL := Lib.hid (show L2.length ≤ k * 10 + j ∧ L2.length ≤ 100000 by omega)
        by_cases hjn : j < u.length - 1
        · have hjl : (j : Int) < ((u.length - 1 : Nat) : Int) := by omega
          obtain ⟨y, hy⟩ : ∃ y, u[j]? = some y := ⟨_, List.getElem?_eq_getElem (by omega)⟩
          obtain ⟨z, hz⟩ : ∃ z, u[j + 1]? = some z := ⟨_, List.getElem?_eq_getElem (by omega)⟩
          obtain ⟨bA, oA, hAA, hbA, y0⟩ := hRi.iat hy
          subst hAA
          obtain ⟨bA', oA', hAA, hbA', z0⟩ := hRi.iat hz
          injection hAA with hAA
          injection hAA with e1 e2 e3
          subst e1; subst e2
          have hs3 := Lib.hid (show L2 ++ [(y, z)] = L ++ adj (u.take (j + 1 + 1)) by rw [hL2, adj_take u j y z hy hz, List.append_assoc])
          have hju : (j : Int) < (u.length : Int) := by omega
          have hju2 : (j : Int) + 1 < (u.length : Int) := by omega
          have hjt : ((j : Int) + 1).toNat = j + 1 := by omega
          have hwr : IntKind.i64.wrap ((j : Int) + 1) = (j : Int) + 1 := IntWalk.i64_in _ (by omega)
          replace hL2 := Lib.hid hL2
          replace hy := Lib.hid hy
          replace hz := Lib.hid hz
          replace hown := Lib.hid hown
          replace hob := Lib.hid hob
          replace hRi := Lib.hid hRi
          replace hsi := Lib.hid hsi
          replace hbi := Lib.hid hbi
          clear hbA' hlen2
          go_upto_region 9 with fail
          refine wp_region_ends (by kernel_rfl) (fun ix => match ix with | 0 => 23 | 1 => 24 | 2 => 25 | 3 => 26 | 4 => 27 | 5 => 28 | 6 => 29 | 7 => 30 | 8 => 31 | 9 => 32 | 10 => 33 | 11 => 34 | _ => 0) 12 (by kernel_rfl) (fun i v W => match i with | 0 => v = .slice A4 L2.length c4 | 1 => v = .slice (some ⟨bA, oA, none⟩) u.length c5 | 2 => v = .int .i64 j | 3 => v = .pointer (some ⟨bA, oA + j, none⟩) | 4 => v = .int .i64 y | 5 => v = .slice (some ⟨bA, oA, none⟩) u.length c5 | 6 => v = .int .i64 j | 7 => v = .int .i64 ((j : Int) + 1) | 8 => v = .pointer (some ⟨bA, oA + (j + 1), none⟩) | 9 => v = .int .i64 z | 10 => v = .agg #[.int .i64 y, .int .i64 z] | 11 => ∃ b, v = .slice (some ⟨b, 0, none⟩) 1 1 ∧ Bx W b 33 #[.int .i64 y, .int .i64 z] | _ => True) (fun i v W W' h hb => by
              match i with
              | 0 => exact h
              | 1 => exact h
              | 2 => exact h
              | 3 => exact h
              | 4 => exact h
              | 5 => exact h
              | 6 => exact h
              | 7 => exact h
              | 8 => exact h
              | 9 => exact h
              | 10 => exact h
              | 11 => exact (by obtain ⟨b, h1, h2⟩ := h; exact ⟨b, h1, h2.below hb⟩)
              | n + 12 => exact trivial) ?_ ?_
          refine ⟨?_, ?_, ?_, ?_, ?_, ?_, ?_, ?_, ?_, ?_, ?_, ?_, trivial⟩
          · as_aux_lemma =>
              intro a W2 K hb hdep hk hK
              replace hK : ∀ v w', (v = .slice A4 L2.length c4) → Below W2.heap.size W2 w' → K (a.put (some 23) v) w' := hK
              have d3 : a.tmps.getD 3 undef = .slice A4 L2.length c4 := hk 3 (by kernel_rfl)
              clear hdep hk hb
              go_simp
              exact hK _ _ rfl (Below.refl _ _)
          · as_aux_lemma =>
              intro a W2 K hb hdep hk hK
              replace hK : ∀ v w', (v = .slice (some ⟨bA, oA, none⟩) u.length c5) → Below W2.heap.size W2 w' → K (a.put (some 24) v) w' := hK
              have d6 : a.tmps.getD 6 undef = .slice (some ⟨bA, oA, none⟩) u.length c5 := hk 6 (by kernel_rfl)
              clear hdep hk hb
              go_simp
              exact hK _ _ rfl (Below.refl _ _)
          · as_aux_lemma =>
              intro a W2 K hb hdep hk hK
              replace hK : ∀ v w', (v = .int .i64 j) → Below W2.heap.size W2 w' → K (a.put (some 25) v) w' := hK
              have d7 : a.tmps.getD 7 undef = .int .i64 j := hk 7 (by kernel_rfl)
              clear hdep hk hb
              go_simp
              exact hK _ _ rfl (Below.refl _ _)
          · as_aux_lemma =>
              intro a W2 K hb hdep hk hK
              replace hK : ∀ v w', (v = .pointer (some ⟨bA, oA + j, none⟩)) → Below W2.heap.size W2 w' → K (a.put (some 26) v) w' := hK
              have d24 : a.tmps.getD 24 undef = .slice (some ⟨bA, oA, none⟩) u.length c5 := hdep ⟨1, .data⟩ (by simp) rfl
              have d25 : a.tmps.getD 25 undef = .int .i64 j := hdep ⟨2, .data⟩ (by simp) rfl
              clear hdep hk hb
              go_simp
              exact hK _ _ rfl (Below.refl _ _)
          · as_aux_lemma =>
              intro a W2 K hb hdep hk hK
              replace hK : ∀ v w', (v = .int .i64 y) → Below W2.heap.size W2 w' → K (a.put (some 27) v) w' := hK
              have d26 : a.tmps.getD 26 undef = .pointer (some ⟨bA, oA + j, none⟩) := hdep ⟨3, .data⟩ (by simp) rfl
              have t1 := (hb.cell (p := ⟨bA, _, none⟩) hbA).trans y0
              clear hdep hk hb
              go_simp
              exact hK _ _ rfl (Below.refl _ _)
          · as_aux_lemma =>
              intro a W2 K hb hdep hk hK
              replace hK : ∀ v w', (v = .slice (some ⟨bA, oA, none⟩) u.length c5) → Below W2.heap.size W2 w' → K (a.put (some 28) v) w' := hK
              have d6 : a.tmps.getD 6 undef = .slice (some ⟨bA, oA, none⟩) u.length c5 := hk 6 (by kernel_rfl)
              clear hdep hk hb
              go_simp
              exact hK _ _ rfl (Below.refl _ _)
          · as_aux_lemma =>
              intro a W2 K hb hdep hk hK
              replace hK : ∀ v w', (v = .int .i64 j) → Below W2.heap.size W2 w' → K (a.put (some 29) v) w' := hK
              have d7 : a.tmps.getD 7 undef = .int .i64 j := hk 7 (by kernel_rfl)
              clear hdep hk hb
              go_simp
              exact hK _ _ rfl (Below.refl _ _)
          · as_aux_lemma =>
              intro a W2 K hb hdep hk hK
              replace hK : ∀ v w', (v = .int .i64 ((j : Int) + 1)) → Below W2.heap.size W2 w' → K (a.put (some 30) v) w' := hK
              have d29 : a.tmps.getD 29 undef = .int .i64 j := hdep ⟨6, .data⟩ (by simp) rfl
              clear hdep hk hb
              have q29 : a.tmps[29]?.getD undef = .int .i64 j := by simpa [Array.getD_eq_getD_getElem?] using d29
              clear d29
              go_simp
              exact hK _ _ rfl (Below.refl _ _)
          · as_aux_lemma =>
              intro a W2 K hb hdep hk hK
              replace hK : ∀ v w', (v = .pointer (some ⟨bA, oA + (j + 1), none⟩)) → Below W2.heap.size W2 w' → K (a.put (some 31) v) w' := hK
              have d28 : a.tmps.getD 28 undef = .slice (some ⟨bA, oA, none⟩) u.length c5 := hdep ⟨5, .data⟩ (by simp) rfl
              have d30 : a.tmps.getD 30 undef = .int .i64 ((j : Int) + 1) := hdep ⟨7, .data⟩ (by simp) rfl
              clear hdep hk hb
              go_simp
              exact hK _ _ rfl (Below.refl _ _)
          · as_aux_lemma =>
              intro a W2 K hb hdep hk hK
              replace hK : ∀ v w', (v = .int .i64 z) → Below W2.heap.size W2 w' → K (a.put (some 32) v) w' := hK
              have d31 : a.tmps.getD 31 undef = .pointer (some ⟨bA, oA + (j + 1), none⟩) := hdep ⟨8, .data⟩ (by simp) rfl
              have t1 := (hb.cell (p := ⟨bA, _, none⟩) hbA).trans z0
              clear hdep hk hb
              go_simp
              exact hK _ _ rfl (Below.refl _ _)
          · as_aux_lemma =>
              intro a W2 K hb hdep hk hK
              replace hK : ∀ v w', (v = .agg #[.int .i64 y, .int .i64 z]) → Below W2.heap.size W2 w' → K (a.put (some 33) v) w' := hK
              have d27 : a.tmps.getD 27 undef = .int .i64 y := hdep ⟨4, .data⟩ (by simp) rfl
              have d32 : a.tmps.getD 32 undef = .int .i64 z := hdep ⟨9, .data⟩ (by simp) rfl
              clear hdep hk hb
              have q27 : a.tmps[27]?.getD undef = .int .i64 y := by simpa [Array.getD_eq_getD_getElem?] using d27
              clear d27
              have q32 : a.tmps[32]?.getD undef = .int .i64 z := by simpa [Array.getD_eq_getD_getElem?] using d32
              clear d32
              go_simp
              exact hK _ _ rfl (Below.refl _ _)
          · as_aux_lemma =>
              intro a W2 K hb hdep hk hK
              replace hK : ∀ v w', (∃ b, v = .slice (some ⟨b, 0, none⟩) 1 1 ∧ Bx w' b 33 #[.int .i64 y, .int .i64 z]) → Below W2.heap.size W2 w' → K (a.put (some 34) v) w' := hK
              have d33 : a.tmps.getD 33 undef = .agg #[.int .i64 y, .int .i64 z] := hdep ⟨10, .data⟩ (by simp) rfl
              clear hdep hk hb
              have q33 : a.tmps[33]?.getD undef = .agg #[.int .i64 y, .int .i64 z] := by simpa [Array.getD_eq_getD_getElem?] using d33
              clear d33
              go_simp
              exact hK _ _ ⟨_, rfl, Bx.new _ _ _ rfl⟩ ((Below.refl _ _).alloc (Nat.le_refl _) _)
          intro a W3 hb3 hsp hk hn hdf
          obtain ⟨b9, h9, hblk⟩ := hsp 11 (by decide)
          have s0 : a.tmps.getD 0 undef = .slice (some ⟨bS8, oS8, none⟩) l.length c := hk 0 (by kernel_rfl)
          have s1 : a.tmps.getD 1 undef = undef := hk 1 (by kernel_rfl)
          have s2 : a.tmps.getD 2 undef = .slice none 0 0 := hk 2 (by kernel_rfl)
          have s3 : a.tmps.getD 3 undef = .slice A4 L2.length c4 := hk 3 (by kernel_rfl)
          have s4 : a.tmps.getD 4 undef = undef := hk 4 (by kernel_rfl)
          have s5 : a.tmps.getD 5 undef = .pointer (some ⟨wo.heap.size, 0, none⟩) := hk 5 (by kernel_rfl)
          have s6 : a.tmps.getD 6 undef = .slice (some ⟨bA, oA, none⟩) u.length c5 := hk 6 (by kernel_rfl)
          have s7 : a.tmps.getD 7 undef = .int .i64 j := hk 7 (by kernel_rfl)
          have s8 : a.tmps.getD 8 undef = .slice (some ⟨bS8, oS8, none⟩) l.length c := hk 8 (by kernel_rfl)
          have s9 : a.tmps.getD 9 undef = .int .i64 l.length := hk 9 (by kernel_rfl)
          have s10 : a.tmps.getD 10 undef = .int .i64 k := hk 10 (by kernel_rfl)
          have s11 : a.tmps.getD 11 undef = .bool true := hk 11 (by kernel_rfl)
          have s12 : a.tmps.getD 12 undef = .pointer (some ⟨bS8, oS8 + k * 2, none⟩) := hk 12 (by kernel_rfl)
          have s13 : a.tmps.getD 13 undef = .agg #[.int .i64 x.id, .slice A8 x.ports.length c8] := hk 13 (by kernel_rfl)
          have s14 : a.tmps.getD 14 undef = .agg #[.int .i64 x.id, .slice A8 x.ports.length c8] := hk 14 (by kernel_rfl)
          have s15 : a.tmps.getD 15 undef = .slice (some ⟨bA, oA, none⟩) u.length c5 := hk 15 (by kernel_rfl)
          have s16 : a.tmps.getD 16 undef = .slice (some ⟨bA, oA, none⟩) u.length c5 := hk 16 (by kernel_rfl)
          have s17 : a.tmps.getD 17 undef = .int .i64 u.length := hk 17 (by kernel_rfl)
          have s18 : a.tmps.getD 18 undef = .int .i64 ((u.length : Int) - 1) := hk 18 (by kernel_rfl)
          have s19 : a.tmps.getD 19 undef = .int .i64 ((u.length - 1 : Nat) : Int) := hk 19 (by kernel_rfl)
          have s20 : a.tmps.getD 20 undef = .int .i64 j := hk 20 (by kernel_rfl)
          have s21 : a.tmps.getD 21 undef = .bool true := hk 21 (by kernel_rfl)
          have s22 : a.tmps.getD 22 undef = .int .i64 j := hk 22 (by kernel_rfl)
          have s37 : a.tmps.getD 37 undef = u37 := hk 37 (by kernel_rfl)
          have s38 : a.tmps.getD 38 undef = undef := hk 38 (by kernel_rfl)
          have s23 : a.tmps.getD 23 undef = .slice A4 L2.length c4 := hsp 0 (by decide)
          have s24 : a.tmps.getD 24 undef = .slice (some ⟨bA, oA, none⟩) u.length c5 := hsp 1 (by decide)
          have s25 : a.tmps.getD 25 undef = .int .i64 j := hsp 2 (by decide)
          have s26 : a.tmps.getD 26 undef = .pointer (some ⟨bA, oA + j, none⟩) := hsp 3 (by decide)
          have s27 : a.tmps.getD 27 undef = .int .i64 y := hsp 4 (by decide)
          have s28 : a.tmps.getD 28 undef = .slice (some ⟨bA, oA, none⟩) u.length c5 := hsp 5 (by decide)
          have s29 : a.tmps.getD 29 undef = .int .i64 j := hsp 6 (by decide)
          have s30 : a.tmps.getD 30 undef = .int .i64 ((j : Int) + 1) := hsp 7 (by decide)
          have s31 : a.tmps.getD 31 undef = .pointer (some ⟨bA, oA + (j + 1), none⟩) := hsp 8 (by decide)
          have s32 : a.tmps.getD 32 undef = .int .i64 z := hsp 9 (by decide)
          have s33 : a.tmps.getD 33 undef = .agg #[.int .i64 y, .int .i64 z] := hsp 10 (by decide)
          have s34 : a.tmps.getD 34 undef = .slice (some ⟨b9, 0, none⟩) 1 1 := h9
          clear hk hsp h9
          obtain ⟨tm, df⟩ := a
          have e := arr_out tm 39 hn
          replace e : tm = #[tm.getD 0 undef, tm.getD 1 undef, tm.getD 2 undef, tm.getD 3 undef, tm.getD 4 undef, tm.getD 5 undef, tm.getD 6 undef, tm.getD 7 undef, tm.getD 8 undef, tm.getD 9 undef, tm.getD 10 undef, tm.getD 11 undef, tm.getD 12 undef, tm.getD 13 undef, tm.getD 14 undef, tm.getD 15 undef, tm.getD 16 undef, tm.getD 17 undef, tm.getD 18 undef, tm.getD 19 undef, tm.getD 20 undef, tm.getD 21 undef, tm.getD 22 undef, tm.getD 23 undef, tm.getD 24 undef, tm.getD 25 undef, tm.getD 26 undef, tm.getD 27 undef, tm.getD 28 undef, tm.getD 29 undef, tm.getD 30 undef, tm.getD 31 undef, tm.getD 32 undef, tm.getD 33 undef, tm.getD 34 undef, tm.getD 35 undef, tm.getD 36 undef, tm.getD 37 undef, tm.getD 38 undef] := e
          simp only at s0 s1 s2 s3 s4 s5 s6 s7 s8 s9 s10 s11 s12 s13 s14 s15 s16 s17 s18 s19 s20 s21 s22 s37 s38 s23 s24 s25 s26 s27 s28 s29 s30 s31 s32 s33 s34 hdf
          rw [s0, s1, s2, s3, s4, s5, s6, s7, s8, s9, s10, s11, s12, s13, s14, s15, s16, s17, s18, s19, s20, s21, s22, s37, s38, s23, s24, s25, s26, s27, s28, s29, s30, s31, s32, s33, s34] at e
          subst hdf
          clear s0 s1 s2 s3 s4 s5 s6 s7 s8 s9 s10 s11 s12 s13 s14 s15 s16 s17 s18 s19 s20 s21 s22 s37 s38 s23 s24 s25 s26 s27 s28 s29 s30 s31 s32 s33 s34 hn
          generalize tm.getD 35 undef = u35 at e
          generalize tm.getD 36 undef = u36 at e
          subst e
          simp only [List.drop_succ_cons, List.drop_zero]
          have hb5 := Lib.hid (bt hbi.out hb3)
          have hsl := Lib.hid (show Sl W3 2 (some ⟨b9, 0, none⟩) ([(y, z)].map ec) from bx_sl hblk rfl (by intro c hc; simp at hc; subst hc; rfl))
          clear hblk
          have own3 := Lib.hid (hown.out.below hb3)
          have R3 := Lib.hid (hRi.out.below hb3)
          have hs3w := Lib.hid (Nat.le_trans hsi.out hb3.size)
          have hn1 : Hid ((L2.map ec).length + ([(y, z)].map ec).length ≤ 1000000) := Lib.hid (by rw [List.length_map]; have := hlenL.out; simp; omega)
          have hvl : Hid ((L2.map ec).length = L2.length) := Lib.hid (by rw [List.length_map])
          have hB2 : Hid (w.heap.size ≤ W3.heap.size) := Lib.hid hb5.out.size
          go_wp2_with (at_builtin; (refine wpList_append_sl rfl (.tmp 23) (.tmp 34) 53 rfl elE (by rfl) own3.out (by rfl) (by rfl) hsl.out (wholeE _) (fun h => by cases h) hn1.out hB2.out ?_); intro v' w4 own1 grow1 hvb)
          have b4 : Below w.heap.size w w4 := hb5.out.grown grow1 hb5.out.size (fun j hj => (own3.out.lt j hj).1)
          have hob4 := Lib.hid (show ∀ j, v'.ownBlock = some j → j < w8.heap.size ∨ w10.heap.size ≤ j from fun j hj => by
            rcases hvb with e | e
            · rw [e] at hj; exact hob.out j hj
            · rw [e] at hj; obtain rfl := Option.some.inj hj; exact .inr hs3w.out)
          have hr4 := Lib.hid (show Row ic 1 w4 (some ⟨bA, oA, none⟩) u.length c5 u from R3.out.grown grow1 (fun a ha _ e => by
            have h1 := hfar.out a ha
            rcases hob.out _ e.symm with h3 | h3 <;> omega))
          have hs4 := Lib.hid (show w10.heap.size ≤ w4.heap.size from Nat.le_trans hs3w.out grow1.size)
          clear hvb grow1
          go_roundw
          case rel => exact ⟨j + 1, L2 ++ [(y, z)], by omega, by go_num, hs3.out, by rw [List.length_append]; have := hlenL.out; simp; omega, own_snoc own1, hob4.out, hr4.out, hs4.out, b4⟩
          case measure => simp [intOf]; omega
        · obtain rfl : j = u.length - 1 := by omega
          rw [show u.take (u.length - 1 + 1) = u from List.take_of_length_le (by omega), ← hs.out] at hL2
          replace hL2 := Lib.hid hL2
          replace hown := Lib.hid hown
          replace hbi := Lib.hid hbi
          replace hob := Lib.hid hob
          replace hRi := Lib.hid hRi
          replace hsi := Lib.hid hsi
          go_wp2_with fail
          go_roundw
          case rel => exact ⟨k + 1, L2, by omega, by go_num, hL2.out, by omega, hown.out, hbi.out⟩
          case measure => simp [intOf]; omega
    · obtain rfl : k = l.length := by omega
      rw [List.take_length] at hL
      subst hL
      replace hown := Lib.hid hown
      replace hb := Lib.hid hb
      go_wp2_with fail
      go_ret
      exact ⟨A3, c3, rfl, hown.out, hb.out⟩
end Go.Proofs.Ytgcmklliafcffaa.LanP
