/-
  LruUses whole.
-/
import Derived.Test.YtcaafpgnbkebaaaLruF
namespace Go.Proofs.Ytcaafpgnbkebaaa.LruP
open Go.RowKit Go.Sort Go.Proofs.Ytcaafpgnbkebaaa.SliceP Go.Proofs.Ytcaafpgnbkebaaa.IntP
set_option linter.unusedVariables false
set_option maxRecDepth 100000

/-- Those of l that are not in L. -/
def restI (l L : List Int) : List Int := l.filter fun y => !hasI L y
theorem rest_mem {l L : List Int} {y : Int} : y ∈ restI l L ↔ y ∈ l ∧ y ∉ L := by
  unfold restI; rw [List.mem_filter]; simp [has_false]
theorem rest_nil (l : List Int) : restI l [] = l := by
  unfold restI; rw [List.filter_eq_self]; intro y _; rfl
theorem rest_len (l L : List Int) : (restI l L).length ≤ l.length := List.length_filter_le _ _
theorem rest_yes {l L : List Int} {k : Nat} {y : Int} (hy : l[k]? = some y) (h : hasI L y = true) : restI (l.take (k + 1)) L = restI (l.take k) L := by
  unfold restI; rw [take_next hy, List.filter_append]; simp [h]
theorem rest_no {l L : List Int} {k : Nat} {y : Int} (hy : l[k]? = some y) (h : hasI L y = false) : restI (l.take (k + 1)) L = restI (l.take k) L ++ [y] := by
  unfold restI; rw [take_next hy, List.filter_append]; simp [h]
theorem rest_use (l L : List Int) (x : Int) : restI l (useL L x) = without (restI l L) x := by
  unfold restI without
  rw [List.filter_filter]
  refine List.filter_congr fun y _ => ?_
  rw [Bool.eq_iff_iff]
  simp only [Bool.not_eq_true', Bool.and_eq_true, bne_iff_ne, has_false, useL, List.mem_cons, without_mem, not_or, not_and, ne_eq, Classical.not_not]
  constructor
  · rintro ⟨h1, h2⟩
    exact ⟨h1, fun h => h1 (h2 h)⟩
  · rintro ⟨h1, h2⟩
    exact ⟨h1, fun h => absurd h h2⟩
theorem without_app (l m : List Int) (x : Int) : without (l ++ m) x = without l x ++ without m x := by unfold without; rw [List.filter_append]
theorem without_twice (l : List Int) (x : Int) : without (without l x) x = without l x := without_same (notin_without l x)
theorem use_twice (l : List Int) (x : Int) : useL (useL l x) x = useL l x := by
  show x :: without (x :: without l x) x = x :: without l x
  rw [without_cons (notin_without l x)]
theorem without_nodup_len {l : List Int} (h : l.Nodup) (x : Int) : l.length ≤ (without l x).length + 1 := by
  have e : without l x = l.erase x := by unfold without; rw [h.erase_eq_filter]
  rw [e, List.length_erase]; split <;> omega
/-- Of n numbers no more than n are not the same. -/
theorem pigeon : ∀ (n : Nat) (l : List Int), l.Nodup → (∀ y ∈ l, 0 ≤ y ∧ y < n) → l.length ≤ n
  | 0, l, _, h => by
    cases l with
    | nil => exact Nat.le_refl _
    | cons y r => have := h y (by simp); omega
  | n + 1, l, hn, h => by
    have h1 := pigeon n (without l n) (hn.sublist (without_sub l n)) fun y hy => by
      obtain ⟨a, b⟩ := without_mem.1 hy
      have := h y a
      omega
    have := without_nodup_len hn (n : Int)
    omega

/-- What holds after some uses: now, last. -/
structure UsesI (l N L : List Int) : Prop where
  eq : N = L ++ restI l L
  nodup : L.Nodup
  bd : ∀ y ∈ L, 0 ≤ y ∧ y < 20
theorem uses_start (l : List Int) : UsesI l l [] := ⟨by rw [rest_nil]; rfl, List.nodup_nil, fun y h => by cases h⟩
theorem uses_next {l N L : List Int} (h : UsesI l N L) {x : Int} (h0 : 0 ≤ x) (h1 : x < 20) : UsesI l (useL N x) (useL L x) := by
  obtain ⟨e, hn, hb⟩ := h
  refine ⟨?_, List.nodup_cons.2 ⟨notin_without L x, hn.sublist (without_sub L x)⟩, fun y hy => ?_⟩
  · rw [rest_use, e]
    show x :: without (L ++ restI l L) x = x :: (without L x ++ without (restI l L) x)
    rw [without_app]
  · rcases List.mem_cons.1 hy with rfl | hy
    · exact ⟨h0, h1⟩
    · exact hb y (without_mem.1 hy).1
theorem uses_len {l N L : List Int} (h : UsesI l N L) : L.length ≤ 20 ∧ N.length ≤ 20 + l.length := by
  have h1 := pigeon 20 L h.nodup h.bd
  refine ⟨h1, ?_⟩
  rw [h.eq, List.length_append]
  have := rest_len l L
  omega
theorem uses_right {l N L : List Int} (h : UsesI l N L) (hr : rightI l = true) (hl : l.length ≤ 40) : rightI N = true := by
  have h1 := uses_len h
  rw [right_iff] at hr ⊢
  refine ⟨by omega, ?_, fun y hy => ?_⟩
  · rw [h.eq]
    refine List.nodup_append.2 ⟨h.nodup, hr.2.1.sublist List.filter_sublist, fun a ha b hb => ?_⟩
    rintro rfl
    exact (rest_mem.1 hb).2 ha
  · rw [h.eq] at hy
    rcases List.mem_append.1 hy with hy | hy
    · exact (h.bd y hy).1
    · exact hr.2.2 y (rest_mem.1 hy).1
theorem cut20 (x : Int) : 0 ≤ x.tmod 20 % 20 ∧ x.tmod 20 % 20 < 20 ∧ -20 < x.tmod 20 ∧ x.tmod 20 < 20 := by
  have h1 : -20 < x.tmod 20 := by have := Int.lt_tmod_of_pos x (show (0 : Int) < 20 by decide); omega
  have h2 : x.tmod 20 < 20 := Int.tmod_lt_of_pos x (by decide)
  omega

set_option maxHeartbeats 8000000 in
theorem uses_law (v u : Value) {w : World} (h : InI w v) (hu : InI w u) :
    Calls Try.prog 4 #[v, u] w (True1 w) := by
  have H := Lib.hid h
  have HU : ∃ B nu cu U, u = .slice B nu cu ∧ RowI w B nu cu U ∧ cu ≤ 9223372036854775807 ∧ (B = none → nu = 0) := by
    rcases hu with rfl | ⟨a, L, cap, rfl, h1, h2, h3⟩
    · exact ⟨none, 0, 0, [], rfl, RowI.empty w, by omega, fun _ => rfl⟩
    · exact ⟨some a, _, cap, L, rfl, ⟨rfl, h3, h1, fun h => by cases h⟩, h2, fun h => by cases h⟩
  obtain ⟨B, nu, cu, U, rfl, hRU, hcu, hBn⟩ := HU
  obtain rfl := hRU.len
  have hcap := hRU.cap
  replace hRU := Lib.hid hRU
  replace hBn := Lib.hid hBn
  clear h hu
  go_enter Try.func4, Try.ntmps4
  go_wp2_with fail
  go_at_call 7
  (with_reducible refine (few_in H.out).mono ?_)
  rintro e w' ⟨A, n, c, l, rfl, hR, hl, rfl⟩
  obtain rfl := hR.len
  have R := Lib.hid hR
  clear hR
  have hl1 : l.length ≤ 1000 := by omega
  cases hr : rightI l
  · replace hr := Lib.hid hr
    go_wp2_with fail
    go_at_call 13
    (with_reducible refine (right_is R.out hl1 _ hr.out).mono ?_)
    rintro e w1 ⟨rfl, rfl⟩
    go_wp2_with fail
    go_at_call 14
    (with_reducible refine (alive_any _).mono ?_)
    rintro e w2 ⟨rfl, hb2⟩
    go_wp2_with fail
    go_ret
    exact ⟨rfl, hb2⟩
  replace hr := Lib.hid hr
  by_cases h40 : 40 < l.length
  · have h40' : (40 : Int) < (l.length : Int) := by omega
    go_wp2_with fail
    go_at_call 13
    (with_reducible refine (right_is R.out hl1 _ hr.out).mono ?_)
    rintro e w1 ⟨rfl, rfl⟩
    go_wp2_with fail
    go_at_call 14
    (with_reducible refine (alive_any _).mono ?_)
    rintro e w2 ⟨rfl, hb2⟩
    go_wp2_with fail
    go_ret
    exact ⟨rfl, hb2⟩
  have h40' : (l.length : Int) ≤ 40 := by omega
  have hl40 : l.length ≤ 40 := by omega
  by_cases hU : U.length ≤ 60
  · have hU' : (U.length : Int) ≤ 60 := by omega
    have hUc : (U.length : Int) ≤ (cu : Int) := by omega
    go_wp2_with fail
    go_at_call 13
    (with_reducible refine (right_is R.out hl1 _ hr.out).mono ?_)
    rintro e w1 ⟨rfl, rfl⟩
    go_wp2_with fail
    go_loopw [5, 6, 34] (fun a b i wr => ∃ (k : Nat) (A1 : Option Addr) (c1 : Nat) (N : List Int) (A2 : Option Addr) (c2 : Nat) (L : List Int), k ≤ U.length ∧ i = .int .i64 k ∧ a = .slice A1 N.length c1 ∧ b = .slice A2 L.length c2 ∧ RowI wr A1 N.length c1 N ∧ RowI wr A2 L.length c2 L ∧ UsesI l N L ∧ Below w.heap.size w wr) (fun _ _ i _ => U.length - (intOf i).toNat)
    case atStart => exact ⟨0, A, c, l, none, 0, [], by omega, rfl, rfl, rfl, R.out, RowI.empty w, uses_start l, Below.refl _ _⟩
    case round =>
      obtain ⟨k, A1, c1, N, A2, c2, L, hk, rfl, rfl, rfl, hN, hL, hI, hb⟩ := hrel
      obtain ⟨hL20, hN60⟩ := uses_len hI
      have hNr := uses_right hI hr.out hl40
      have hN1 : N.length ≤ 1000 := by omega
      have hL1 : L.length ≤ 1000 := by omega
      replace hN := Lib.hid hN
      replace hL := Lib.hid hL
      replace hI := Lib.hid hI
      by_cases hlk : k < U.length
      · obtain ⟨y, hy⟩ : ∃ y, U[k]? = some y := ⟨_, List.getElem?_eq_getElem (by omega)⟩
        obtain ⟨bb, ob, rfl, hbw, q0⟩ := SlI.at_ hRU.out.sl hy
        replace q0 := (hb.cell (p := ⟨bb, _, none⟩) hbw).trans q0
        have hkl : (k : Int) < (U.length : Int) := by omega
        obtain ⟨z1, z2, z3, z4⟩ := cut20 y
        replace hNr := Lib.hid hNr
        clear hy
        go_wp2_with fail
        rw [show (y.tmod 20 + 20) % 20 = y.tmod 20 % 20 by omega]
        generalize y.tmod 20 % 20 = x at *
        have hwl := without_length N x
        have E1 := useE_ok hNr.out z1 (show (without N x).length ≠ 64 by omega)
        have hra := right_cons (right_without hNr.out x) z1 (notin_without N x) (by omega)
        have E2 := useE_ok (l := useL N x) hra z1 (show (without (x :: without N x) x).length ≠ 64 by rw [without_cons (notin_without N x)]; omega)
        rw [use_twice] at E2
        have hal : (useL N x).length ≤ 1000 := by rw [useL_length]; omega
        have hI2 := uses_next hI.out z1 z2
        obtain ⟨a, ha⟩ : ∃ a, useL N x = a := ⟨_, rfl⟩
        obtain ⟨L', hL'⟩ : ∃ L', useL L x = L' := ⟨_, rfl⟩
        rw [ha] at E1 E2 hal hI2
        rw [hL'] at hI2
        replace E1 := Lib.hid E1
        replace E2 := Lib.hid E2
        replace hI2 := Lib.hid hI2
        replace ha := Lib.hid ha
        replace hL' := Lib.hid hL'
        replace hra := Lib.hid hra
        clear hwl
        go_at_call 8
        (with_reducible refine (use_is hN.out hN1 x _ _ E1.out).mono ?_)
        rintro e w1 ⟨A3, c3, rfl, o3, hb1⟩
        have Rn_w1 := Lib.hid (hN.out.below hb1)
        have Rl_w1 := Lib.hid (hL.out.below hb1)
        have Ra_w1 := Lib.hid (own_row o3)
        have B_w1 := bt hb hb1
        clear hN hL hb hb1
        clear o3
        clear Rn_w1
        go_wp2_with fail
        go_at_call 8
        (with_reducible refine (use_is Ra_w1.out hal x _ _ E2.out).mono ?_)
        rintro e w2 ⟨A4, c4, rfl, o4, hb2⟩
        have Rl_w2 := Lib.hid (Rl_w1.out.below hb2)
        have Ra_w2 := Lib.hid (Ra_w1.out.below hb2)
        have Rb_w2 := Lib.hid (own_row o4)
        have B_w2 := bt B_w1 hb2
        clear Rl_w1 Ra_w1 B_w1 hb2
        clear o4
        go_wp2_with fail
        go_at_call 15
        (with_reducible refine (same_true Ra_w2.out Rb_w2.out rfl hal).mono ?_)
        rintro e w3 ⟨rfl, hb3⟩
        have Rl_w3 := Lib.hid (Rl_w2.out.below hb3)
        have Ra_w3 := Lib.hid (Ra_w2.out.below hb3)
        have Rb_w3 := Lib.hid (Rb_w2.out.below hb3)
        have B_w3 := bt B_w2 hb3
        clear Rl_w2 Ra_w2 Rb_w2 B_w2 hb3
        clear Rb_w3
        go_wp2_with fail
        go_at_call 19
        (with_reducible refine (ref_use_any Rl_w3.out x hL1).mono ?_)
        rw [hL'.out]
        rintro e w4 ⟨A5, c5, rfl, o5, hb4⟩
        have Rl_w4 := Lib.hid (Rl_w3.out.below hb4)
        have Ra_w4 := Lib.hid (Ra_w3.out.below hb4)
        have Rx_w4 := Lib.hid (own_row o5)
        have B_w4 := bt B_w3 hb4
        clear Rl_w3 Ra_w3 B_w3 hb4
        clear o5
        clear Rl_w4
        go_wp2_with fail
        go_roundw
        case rel => exact ⟨k + 1, A3, c3, a, A5, c5, L', by omega, by go_num, rfl, rfl, Ra_w4.out, Rx_w4.out, hI2.out, B_w4⟩
        case measure => simp [intOf]; omega
      · obtain rfl : k = U.length := by omega
        obtain ⟨W, rfl⟩ : ∃ W : World, W = wr := ⟨_, rfl⟩
        have Q0 : Below W.heap.size W (W.alloc (.cells #[] 3)) := (Below.refl _ _).alloc (Nat.le_refl _) _
        have O0 := Lib.hid (own_lit W #[] [] W.heap.size 0 (Nat.le_refl _) rfl rfl (by simp))
        have L0 := Lib.hid (hL.out.below Q0)
        have hn1 : Hid ((cI []).length + (cI L).length ≤ 1000000) := Lib.hid (by rw [cI_length, cI_length]; simp only [List.length_nil]; omega)
        have hnL : Hid (L.length = (cI L).length) := Lib.hid (cI_length _).symm
        have hB0 := Lib.hid Q0.size
        have RW := Lib.hid (R.out.below hb)
        go_wp2_with (at_builtin; (refine wpList_append_sl rfl (.tmp 71) (.tmp 72) 22 rfl elI (by rfl) O0.out (by rfl) hnL.out L0.out.sl (IntP.whole _) L0.out.nil hn1.out hB0.out ?_); intro v1 wA own1 grow1 _; have Q1 : Below W.heap.size W wA := Q0.grown grow1 Q0.size (fun k hk => (O0.out.lt k hk).1); rw [← cI_append, List.nil_append] at own1; replace own1 := Lib.hid own1)
        clear grow1 O0 L0 hn1 hnL hB0
        go_loopw [13, 76] (fun v i wr => ∃ k : Nat, k ≤ l.length ∧ i = .int .i64 k ∧ OwnI wr W.heap.size v (L ++ restI (l.take k) L) ∧ Below W.heap.size W wr) (fun _ i _ => l.length - (intOf i).toNat)
        case atStart => exact ⟨0, by omega, rfl, by rw [List.take_zero]; show OwnI _ _ _ (L ++ []); rw [List.append_nil]; exact own1.out, Q1⟩
        case round =>
          obtain ⟨k, hk, rfl, hown, hb2⟩ := hrel
          replace hown := Lib.hid hown
          by_cases hlk2 : k < l.length
          · obtain ⟨y, hy⟩ : ∃ y, l[k]? = some y := ⟨_, List.getElem?_eq_getElem hlk2⟩
            obtain ⟨bb, ob, rfl, hbw, q0⟩ := SlI.at_ RW.out.sl hy
            replace q0 := (hb2.cell (p := ⟨bb, _, none⟩) hbw).trans q0
            have hL2 := Lib.hid (hL.out.below hb2)
            have hs := hb2.size
            have hL6 : Hid (L.length ≤ 1000000) := Lib.hid (by omega)
            have hrl := rest_len (l.take k) L
            rw [List.length_take] at hrl
            have hlen : (L ++ restI (l.take k) L).length ≤ 1000 := by rw [List.length_append]; omega
            clear hrl
            cases hh : hasI L y
            · have hn := Lib.hid (rest_no hy hh)
              replace hh := Lib.hid hh
              clear hy
              have own2 := Lib.hid (hown.out.below ((Below.refl _ _).alloc (Nat.le_refl _) (.cells #[.int .i64 y] 3)))
              have hn1 : Hid ((cI (L ++ restI (l.take k) L)).length + (cI [y]).length ≤ 1000000) := Lib.hid (by rw [cI_length, cI_length]; simp only [List.length_cons, List.length_nil]; omega)
              have hB2 : Hid (W.heap.size ≤ (wr.alloc (.cells #[.int .i64 y] 3)).heap.size) := Lib.hid (by simp; omega)
              have hsl := Lib.hid (SlI.one wr y wr.heap.size rfl)
              clear hlen
              go_wp2_with fail
              go_at_call 17
              (with_reducible refine (ref_has_is hL2.out y _ hh.out hL6.out).mono ?_)
              rintro e w1 ⟨rfl, rfl⟩
              go_wp2_with (at_builtin; (refine wpList_append_sl rfl (.tmp 84) (.tmp 86) 22 rfl elI (by rfl) own2.out (by rfl) (by rfl) hsl.out (IntP.whole [y]) (fun h => by cases h) hn1.out hB2.out ?_); intro v' w1 own3 grow3 _)
              have B1 : Below W.heap.size W w1 := (hb2.alloc hs _).grown grow3 (by simp; omega) (fun k hk => (hown.out.lt k hk).1)
              go_roundw
              case rel => exact ⟨k + 1, by omega, by go_num, by rw [hn.out, ← List.append_assoc]; rw [← cI_append] at own3; exact own3, B1⟩
              case measure => simp [intOf]; omega
            · have hn := Lib.hid (rest_yes hy hh)
              replace hh := Lib.hid hh
              clear hy
              go_wp2_with fail
              go_at_call 17
              (with_reducible refine (ref_has_is hL2.out y _ hh.out hL6.out).mono ?_)
              rintro e w1 ⟨rfl, rfl⟩
              go_wp2_with fail
              go_roundw
              case rel => exact ⟨k + 1, by omega, by go_num, by rw [hn.out]; exact hown.out, hb2⟩
              case measure => simp [intOf]; omega
          · obtain rfl : k = l.length := by omega
            rw [List.take_length, ← hI.out.eq] at hown
            obtain ⟨A9, c9, rfl⟩ := OwnI.form' hown.out
            have Rx := Lib.hid (own_row hown.out)
            have Rn := Lib.hid (hN.out.below hb2)
            have B2 := bt hb hb2
            clear hown hb2
            go_wp2_with fail
            go_at_call 14
            (with_reducible refine (alive_any _).mono ?_)
            rintro e w1 ⟨rfl, hb1⟩
            have Rx_w1 := Lib.hid (Rx.out.below hb1)
            have Rn_w1 := Lib.hid (Rn.out.below hb1)
            have B_w1 := bt B2 hb1
            clear Rx Rn B2 hb1
            go_wp2_with fail
            go_at_call 15
            (with_reducible refine (same_true Rn_w1.out Rx_w1.out rfl hN1).mono ?_)
            rintro e w2 ⟨rfl, hb2⟩
            have Rx_w2 := Lib.hid (Rx_w1.out.below hb2)
            have Rn_w2 := Lib.hid (Rn_w1.out.below hb2)
            have B_w2 := bt B_w1 hb2
            clear Rx_w1 Rn_w1 B_w1 hb2
            go_wp2_with fail
            go_ret
            exact ⟨rfl, B_w2⟩
  · have hU' : (60 : Int) < (U.length : Int) := by omega
    have hU'' : ¬ ((U.length : Int) ≤ 60) := by omega
    have hUc : (60 : Int) ≤ (cu : Int) := by omega
    go_wp2_with fail
    go_at_call 13
    (with_reducible refine (right_is R.out hl1 _ hr.out).mono ?_)
    rintro e w1 ⟨rfl, rfl⟩
    go_wp2_with fail
    go_loopw [5, 6, 34] (fun a b i wr => ∃ (k : Nat) (A1 : Option Addr) (c1 : Nat) (N : List Int) (A2 : Option Addr) (c2 : Nat) (L : List Int), k ≤ 60 ∧ i = .int .i64 k ∧ a = .slice A1 N.length c1 ∧ b = .slice A2 L.length c2 ∧ RowI wr A1 N.length c1 N ∧ RowI wr A2 L.length c2 L ∧ UsesI l N L ∧ Below w.heap.size w wr) (fun _ _ i _ => 60 - (intOf i).toNat)
    case atStart => exact ⟨0, A, c, l, none, 0, [], by omega, rfl, rfl, rfl, R.out, RowI.empty w, uses_start l, Below.refl _ _⟩
    case round =>
      obtain ⟨k, A1, c1, N, A2, c2, L, hk, rfl, rfl, rfl, hN, hL, hI, hb⟩ := hrel
      obtain ⟨hL20, hN60⟩ := uses_len hI
      have hNr := uses_right hI hr.out hl40
      have hN1 : N.length ≤ 1000 := by omega
      have hL1 : L.length ≤ 1000 := by omega
      replace hN := Lib.hid hN
      replace hL := Lib.hid hL
      replace hI := Lib.hid hI
      by_cases hlk : k < 60
      · obtain ⟨y, hy⟩ : ∃ y, U[k]? = some y := ⟨_, List.getElem?_eq_getElem (by omega)⟩
        obtain ⟨bb, ob, rfl, hbw, q0⟩ := SlI.at_ hRU.out.sl hy
        replace q0 := (hb.cell (p := ⟨bb, _, none⟩) hbw).trans q0
        have hkl : (k : Int) < (U.length : Int) := by omega
        obtain ⟨z1, z2, z3, z4⟩ := cut20 y
        replace hNr := Lib.hid hNr
        clear hy
        go_wp2_with fail
        rw [show (y.tmod 20 + 20) % 20 = y.tmod 20 % 20 by omega]
        generalize y.tmod 20 % 20 = x at *
        have hwl := without_length N x
        have E1 := useE_ok hNr.out z1 (show (without N x).length ≠ 64 by omega)
        have hra := right_cons (right_without hNr.out x) z1 (notin_without N x) (by omega)
        have E2 := useE_ok (l := useL N x) hra z1 (show (without (x :: without N x) x).length ≠ 64 by rw [without_cons (notin_without N x)]; omega)
        rw [use_twice] at E2
        have hal : (useL N x).length ≤ 1000 := by rw [useL_length]; omega
        have hI2 := uses_next hI.out z1 z2
        obtain ⟨a, ha⟩ : ∃ a, useL N x = a := ⟨_, rfl⟩
        obtain ⟨L', hL'⟩ : ∃ L', useL L x = L' := ⟨_, rfl⟩
        rw [ha] at E1 E2 hal hI2
        rw [hL'] at hI2
        replace E1 := Lib.hid E1
        replace E2 := Lib.hid E2
        replace hI2 := Lib.hid hI2
        replace ha := Lib.hid ha
        replace hL' := Lib.hid hL'
        replace hra := Lib.hid hra
        clear hwl
        go_at_call 8
        (with_reducible refine (use_is hN.out hN1 x _ _ E1.out).mono ?_)
        rintro e w1 ⟨A3, c3, rfl, o3, hb1⟩
        have Rn_w1 := Lib.hid (hN.out.below hb1)
        have Rl_w1 := Lib.hid (hL.out.below hb1)
        have Ra_w1 := Lib.hid (own_row o3)
        have B_w1 := bt hb hb1
        clear hN hL hb hb1
        clear o3
        clear Rn_w1
        go_wp2_with fail
        go_at_call 8
        (with_reducible refine (use_is Ra_w1.out hal x _ _ E2.out).mono ?_)
        rintro e w2 ⟨A4, c4, rfl, o4, hb2⟩
        have Rl_w2 := Lib.hid (Rl_w1.out.below hb2)
        have Ra_w2 := Lib.hid (Ra_w1.out.below hb2)
        have Rb_w2 := Lib.hid (own_row o4)
        have B_w2 := bt B_w1 hb2
        clear Rl_w1 Ra_w1 B_w1 hb2
        clear o4
        go_wp2_with fail
        go_at_call 15
        (with_reducible refine (same_true Ra_w2.out Rb_w2.out rfl hal).mono ?_)
        rintro e w3 ⟨rfl, hb3⟩
        have Rl_w3 := Lib.hid (Rl_w2.out.below hb3)
        have Ra_w3 := Lib.hid (Ra_w2.out.below hb3)
        have Rb_w3 := Lib.hid (Rb_w2.out.below hb3)
        have B_w3 := bt B_w2 hb3
        clear Rl_w2 Ra_w2 Rb_w2 B_w2 hb3
        clear Rb_w3
        go_wp2_with fail
        go_at_call 19
        (with_reducible refine (ref_use_any Rl_w3.out x hL1).mono ?_)
        rw [hL'.out]
        rintro e w4 ⟨A5, c5, rfl, o5, hb4⟩
        have Rl_w4 := Lib.hid (Rl_w3.out.below hb4)
        have Ra_w4 := Lib.hid (Ra_w3.out.below hb4)
        have Rx_w4 := Lib.hid (own_row o5)
        have B_w4 := bt B_w3 hb4
        clear Rl_w3 Ra_w3 B_w3 hb4
        clear o5
        clear Rl_w4
        go_wp2_with fail
        go_roundw
        case rel => exact ⟨k + 1, A3, c3, a, A5, c5, L', by omega, by go_num, rfl, rfl, Ra_w4.out, Rx_w4.out, hI2.out, B_w4⟩
        case measure => simp [intOf]; omega
      · obtain rfl : k = 60 := by omega
        obtain ⟨W, rfl⟩ : ∃ W : World, W = wr := ⟨_, rfl⟩
        have Q0 : Below W.heap.size W (W.alloc (.cells #[] 3)) := (Below.refl _ _).alloc (Nat.le_refl _) _
        have O0 := Lib.hid (own_lit W #[] [] W.heap.size 0 (Nat.le_refl _) rfl rfl (by simp))
        have L0 := Lib.hid (hL.out.below Q0)
        have hn1 : Hid ((cI []).length + (cI L).length ≤ 1000000) := Lib.hid (by rw [cI_length, cI_length]; simp only [List.length_nil]; omega)
        have hnL : Hid (L.length = (cI L).length) := Lib.hid (cI_length _).symm
        have hB0 := Lib.hid Q0.size
        have RW := Lib.hid (R.out.below hb)
        go_wp2_with (at_builtin; (refine wpList_append_sl rfl (.tmp 71) (.tmp 72) 22 rfl elI (by rfl) O0.out (by rfl) hnL.out L0.out.sl (IntP.whole _) L0.out.nil hn1.out hB0.out ?_); intro v1 wA own1 grow1 _; have Q1 : Below W.heap.size W wA := Q0.grown grow1 Q0.size (fun k hk => (O0.out.lt k hk).1); rw [← cI_append, List.nil_append] at own1; replace own1 := Lib.hid own1)
        clear grow1 O0 L0 hn1 hnL hB0
        go_loopw [13, 76] (fun v i wr => ∃ k : Nat, k ≤ l.length ∧ i = .int .i64 k ∧ OwnI wr W.heap.size v (L ++ restI (l.take k) L) ∧ Below W.heap.size W wr) (fun _ i _ => l.length - (intOf i).toNat)
        case atStart => exact ⟨0, by omega, rfl, by rw [List.take_zero]; show OwnI _ _ _ (L ++ []); rw [List.append_nil]; exact own1.out, Q1⟩
        case round =>
          obtain ⟨k, hk, rfl, hown, hb2⟩ := hrel
          replace hown := Lib.hid hown
          by_cases hlk2 : k < l.length
          · obtain ⟨y, hy⟩ : ∃ y, l[k]? = some y := ⟨_, List.getElem?_eq_getElem hlk2⟩
            obtain ⟨bb, ob, rfl, hbw, q0⟩ := SlI.at_ RW.out.sl hy
            replace q0 := (hb2.cell (p := ⟨bb, _, none⟩) hbw).trans q0
            have hL2 := Lib.hid (hL.out.below hb2)
            have hs := hb2.size
            have hL6 : Hid (L.length ≤ 1000000) := Lib.hid (by omega)
            have hrl := rest_len (l.take k) L
            rw [List.length_take] at hrl
            have hlen : (L ++ restI (l.take k) L).length ≤ 1000 := by rw [List.length_append]; omega
            clear hrl
            cases hh : hasI L y
            · have hn := Lib.hid (rest_no hy hh)
              replace hh := Lib.hid hh
              clear hy
              have own2 := Lib.hid (hown.out.below ((Below.refl _ _).alloc (Nat.le_refl _) (.cells #[.int .i64 y] 3)))
              have hn1 : Hid ((cI (L ++ restI (l.take k) L)).length + (cI [y]).length ≤ 1000000) := Lib.hid (by rw [cI_length, cI_length]; simp only [List.length_cons, List.length_nil]; omega)
              have hB2 : Hid (W.heap.size ≤ (wr.alloc (.cells #[.int .i64 y] 3)).heap.size) := Lib.hid (by simp; omega)
              have hsl := Lib.hid (SlI.one wr y wr.heap.size rfl)
              clear hlen
              go_wp2_with fail
              go_at_call 17
              (with_reducible refine (ref_has_is hL2.out y _ hh.out hL6.out).mono ?_)
              rintro e w1 ⟨rfl, rfl⟩
              go_wp2_with (at_builtin; (refine wpList_append_sl rfl (.tmp 84) (.tmp 86) 22 rfl elI (by rfl) own2.out (by rfl) (by rfl) hsl.out (IntP.whole [y]) (fun h => by cases h) hn1.out hB2.out ?_); intro v' w1 own3 grow3 _)
              have B1 : Below W.heap.size W w1 := (hb2.alloc hs _).grown grow3 (by simp; omega) (fun k hk => (hown.out.lt k hk).1)
              go_roundw
              case rel => exact ⟨k + 1, by omega, by go_num, by rw [hn.out, ← List.append_assoc]; rw [← cI_append] at own3; exact own3, B1⟩
              case measure => simp [intOf]; omega
            · have hn := Lib.hid (rest_yes hy hh)
              replace hh := Lib.hid hh
              clear hy
              go_wp2_with fail
              go_at_call 17
              (with_reducible refine (ref_has_is hL2.out y _ hh.out hL6.out).mono ?_)
              rintro e w1 ⟨rfl, rfl⟩
              go_wp2_with fail
              go_roundw
              case rel => exact ⟨k + 1, by omega, by go_num, by rw [hn.out]; exact hown.out, hb2⟩
              case measure => simp [intOf]; omega
          · obtain rfl : k = l.length := by omega
            rw [List.take_length, ← hI.out.eq] at hown
            obtain ⟨A9, c9, rfl⟩ := OwnI.form' hown.out
            have Rx := Lib.hid (own_row hown.out)
            have Rn := Lib.hid (hN.out.below hb2)
            have B2 := bt hb hb2
            clear hown hb2
            go_wp2_with fail
            go_at_call 14
            (with_reducible refine (alive_any _).mono ?_)
            rintro e w1 ⟨rfl, hb1⟩
            have Rx_w1 := Lib.hid (Rx.out.below hb1)
            have Rn_w1 := Lib.hid (Rn.out.below hb1)
            have B_w1 := bt B2 hb1
            clear Rx Rn B2 hb1
            go_wp2_with fail
            go_at_call 15
            (with_reducible refine (same_true Rn_w1.out Rx_w1.out rfl hN1).mono ?_)
            rintro e w2 ⟨rfl, hb2⟩
            have Rx_w2 := Lib.hid (Rx_w1.out.below hb2)
            have Rn_w2 := Lib.hid (Rn_w1.out.below hb2)
            have B_w2 := bt B_w1 hb2
            clear Rx_w1 Rn_w1 B_w1 hb2
            go_wp2_with fail
            go_ret
            exact ⟨rfl, B_w2⟩
end Go.Proofs.Ytcaafpgnbkebaaa.LruP
