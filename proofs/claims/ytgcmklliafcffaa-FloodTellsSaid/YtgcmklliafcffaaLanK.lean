/-
  Contracts of lan's Part, On.
-/
import Derived.Test.YtgcmklliafcffaaLanJ
import Derived.Test.YtgcmklliafcffaaRegEnd
import Derived.BigRegion
namespace Go.Proofs.Ytgcmklliafcffaa.LanP
open Go.Proofs.Ytgcmklliafcffaa.MacP (arr_out Wrote wp_region_ends outM)
open Go.RowKit Go.Sort Go.Proofs.Ytgcmklliafcffaa.SliceP Go.Proofs.Ytgcmklliafcffaa.BoxP
open Go.Proofs.Ytgcmklliafcffaa.IntP (RowI SlI OwnI)
open Go.Proofs.Ytgcmklliafcffaa.BoolP (RowB SlB OwnB)
open Go.Proofs.Ytgcmklliafcffaa.MacP (classI class_yes class_no ref_right_no ref_right_yes ref_class)
open Go.Proofs.Ytgcmklliafcffaa.LruP (hasI placeI has_more has_hit place_hit place_none place_geq has_true has_false)
set_option linter.unusedVariables false
set_option maxRecDepth 100000
set_option maxHeartbeats 4000000 in
theorem o_part_no {l : L} {A : Option Addr} {c : Nat} {B : Option Addr} {d : Nat} {w : World} (hr : LanR w l A c B d) (hs : Small l) (s : Int) {er : Int} (he : whyI l s = er) (h0 : er ≠ 0) :
    Calls Try.prog 35 #[lv l A c B d, .int .i64 s] w fun e w' => e = .returned (.tuple #[.slice none 0 0, .int .i64 er]) ∧ Below w.heap.size w w' := by
  have hne : (er != 0) = true := by simpa using h0
  replace h0 := Lib.hid h0
  obtain ⟨w0, hw0, X0, R0, B0⟩ := new3 w hr
  have hR := Lib.hid (o_check R0 hs s he)
  replace X0 := Lib.hid X0
  replace B0 := Lib.hid B0
  clear hr hs R0
  go_enter Try.func35, Try.ntmps35
  go_upto_region 1 with fail
  rw [← hw0]
  clear hw0
  have x0 := X0.out.c (i := 0) rfl
  have x1 := X0.out.c (i := 1) rfl
  have x2 := X0.out.c (i := 2) rfl
  have zz := X0.out.lt
  go_wp2_with fail
  go_at_call 48
  (with_reducible refine hR.out.mono ?_)
  rintro e w1 ⟨rfl, hb1⟩
  have B1 := Lib.hid (bt B0.out hb1)
  clear hb1 x0 x1 x2 zz
  go_wp2_with fail
  go_ret2
  exact ⟨rfl, B1.out⟩
set_option maxHeartbeats 4000000 in
theorem o_on_no {l : L} {A : Option Addr} {c : Nat} {B : Option Addr} {d : Nat} {w : World} (hr : LanR w l A c B d) (hs : Small l) (s : Int) {er : Int} (he : whyI l s = er) (h0 : er ≠ 0) :
    Calls Try.prog 20 #[lv l A c B d, .int .i64 s] w fun e w' => e = .returned (.tuple #[.slice none 0 0, .slice none 0 0, .int .i64 er]) ∧ Below w.heap.size w w' := by
  have hne : (er != 0) = true := by simpa using h0
  replace h0 := Lib.hid h0
  obtain ⟨w0, hw0, X0, R0, B0⟩ := new3 w hr
  have hR := Lib.hid (o_check R0 hs s he)
  replace X0 := Lib.hid X0
  replace B0 := Lib.hid B0
  clear hr hs R0
  go_enter Try.func20, Try.ntmps20
  go_upto_region 1 with fail
  rw [← hw0]
  clear hw0
  have x0 := X0.out.c (i := 0) rfl
  have x1 := X0.out.c (i := 1) rfl
  have x2 := X0.out.c (i := 2) rfl
  have zz := X0.out.lt
  go_wp2_with fail
  go_at_call 48
  (with_reducible refine hR.out.mono ?_)
  rintro e w1 ⟨rfl, hb1⟩
  have B1 := Lib.hid (bt B0.out hb1)
  clear hb1 x0 x1 x2 zz
  go_wp2_with fail
  refine bodyPost_ret (v := .tuple #[.slice none 0 0, .slice none 0 0, .int .i64 er]) (by simp [results, Try.results20, go_sem]) rfl ⟨rfl, B1.out⟩
theorem why_zero {l : L} {s : Int} (h : whyI l s = 0) : l.ok = true ∧ 0 ≤ s ∧ s < l.segs := by
  unfold whyI at h
  by_cases h1 : l.ok = true
  · rw [if_pos h1] at h
    by_cases h2 : 0 ≤ s ∧ s < l.segs
    · exact ⟨h1, h2⟩
    · rw [if_neg h2] at h; omega
  · rw [if_neg h1] at h; omega
def partTo (l : L) (s : Int) (k : Nat) : List Int := ((List.range k).map Int.ofNat).filter fun t => lab l.pairs t == lab l.pairs s
theorem partTo_succ (l : L) (s : Int) (k : Nat) : partTo l s (k + 1) = partTo l s k ++ if (lab l.pairs (k : Int) == lab l.pairs s) = true then [(k : Int)] else [] := by
  unfold partTo; rw [List.range_succ, List.map_append, List.filter_append]; congr 1; simp only [List.map_cons, List.map_nil, List.filter_cons, List.filter_nil, Int.ofNat_eq_natCast]
theorem partTo_len (l : L) (s : Int) (k : Nat) : (partTo l s k).length ≤ k := by
  unfold partTo
  have := List.length_filter_le (fun t => lab l.pairs t == lab l.pairs s) ((List.range k).map Int.ofNat)
  simpa using this
set_option maxHeartbeats 16000000 in
theorem o_part_ok {l : L} {A : Option Addr} {c : Nat} {B : Option Addr} {d : Nat} {w : World} (hr : LanR w l A c B d) (hs : Small l) {s : Nat} (he : l.ok = true) (hsn : s < l.n) :
    Calls Try.prog 35 #[lv l A c B d, .int .i64 (s : Int)] w fun e w' => ∃ A' c', e = .returned (.tuple #[.slice A' (l.part s).length c', .int .i64 0]) ∧ Row ic 1 w' A' (l.part s).length c' (l.part s) ∧ Below w.heap.size w w' := by
  have hsg := ok_segs he
  have h8 := ok_small8 he
  have hw : whyI l s = 0 := by unfold whyI; rw [if_pos he, if_pos ⟨by omega, by omega⟩]
  obtain ⟨f, hF⟩ : ∃ f, labF l = f := ⟨_, rfl⟩
  obtain ⟨w0, hw0, X0, R0, B0⟩ := new3 w hr
  have hR := Lib.hid (o_check R0 hs s hw)
  have hC := Lib.hid (fun W (hW : Below w0.heap.size w0 W) => o_leasts8 (R0.below hW) hs (ok_fit he) h8 hF)
  have hlab := Lib.hid fun k hk => labF_at (k := k) hF hk
  replace hF := Lib.hid hF
  replace he := Lib.hid he
  replace hw := Lib.hid hw
  replace X0 := Lib.hid X0
  replace B0 := Lib.hid B0
  clear hr hs R0
  go_enter Try.func35, Try.ntmps35
  go_upto_region 1 with fail
  rw [← hw0]
  clear hw0
  have x0 := X0.out.c (i := 0) rfl
  have x1 := X0.out.c (i := 1) rfl
  have x2 := X0.out.c (i := 2) rfl
  have zz := X0.out.lt
  go_wp2_with fail
  go_at_call 48
  (with_reducible refine hR.out.mono ?_)
  rintro e w1 ⟨rfl, hb1⟩
  have hC1 := Lib.hid (hC.out w1 hb1)
  have B1 := Lib.hid (bt B0.out hb1)
  have X1 := Lib.hid (X0.out.below hb1)
  clear hb1 x0 x1 x2 zz hC hR
  have x0 := X1.out.c (i := 0) rfl
  have x1 := X1.out.c (i := 1) rfl
  have x2 := X1.out.c (i := 2) rfl
  have zz := X1.out.lt
  go_wp2_with fail
  go_at_call 63
  (with_reducible refine hC1.out.mono ?_)
  rintro e w2 ⟨rfl, hb2⟩
  obtain ⟨w3, hw3⟩ : ∃ W, W = w2.alloc (.cells #[.int .i64 (f 0), .int .i64 (f 1), .int .i64 (f 2), .int .i64 (f 3), .int .i64 (f 4), .int .i64 (f 5), .int .i64 (f 6), .int .i64 (f 7)] 99) := ⟨_, rfl⟩
  have bb3 : Below w2.heap.size w2 w3 := by rw [hw3]; exact (Below.refl _ _).alloc (Nat.le_refl _) _
  have X3 := Lib.hid ((X1.out.below hb2).below bb3)
  have Z3 := Lib.hid (show Bx w3 w2.heap.size 99 (A8 f) by rw [hw3]; exact Bx.new _ _ _ rfl)
  have B3 := Lib.hid (bt (bt B1.out hb2) bb3)
  clear hb2 bb3 x0 x1 x2 zz
  go_upto_region 5 with fail
  rw [← hw3]
  clear hw3
  have x0 := X3.out.c (i := 0) rfl
  have zz := X3.out.lt
  have hZl := Lib.hid Z3.out.lt
  have hw03 := Lib.hid (show w.heap.size ≤ w3.heap.size from B3.out.size)
  go_wp2_with fail
  clear x0 zz
  go_loopw [8, 20] (fun v i wr => ∃ (k : Nat) (L : List Int), k ≤ l.n ∧ i = .int .i64 k ∧ L = partTo l s k ∧ Own wr w3.heap.size 3 1 v (L.map ic) ∧ Bx wr w2.heap.size 99 (A8 f) ∧ w3.heap.size ≤ wr.heap.size ∧ Below w.heap.size w wr) (fun _ i _ => l.n - (intOf i).toNat)
  case atStart => exact ⟨0, [], by omega, rfl, rfl, Own.nil _ _ _ _, Z3.out, Nat.le_refl _, B3.out⟩
  case round =>
    clear Z3 B3
    obtain ⟨k, L, hk, rfl, hL, hown, hZ, hsz, hb⟩ := hrel
    obtain ⟨A3, c3, hv3⟩ := own_form hown
    subst hv3
    have hlenL := Lib.hid (show L.length ≤ k by rw [hL]; exact partTo_len _ _ _)
    by_cases hkn : k < l.n
    · have hkl : (k : Int) < l.segs := by omega
      have hk8 : (k : Int) < 8 := by omega
      have hs8 : (s : Int) < 8 := by omega
      have hs' := partTo_succ l s k
      rw [← hL, ← hlab.out k hkn, ← hlab.out s hsn] at hs'
      have ck := hZ.c (A8_get f (show k < 8 by omega))
      have cs := hZ.c (A8_get f (show s < 8 by omega))
      have z3 := hZ.lt
      obtain ⟨u, hu⟩ : ∃ u, f k = u := ⟨_, rfl⟩
      obtain ⟨v, hv⟩ : ∃ v, f s = v := ⟨_, rfl⟩
      rw [hu, hv] at hs'
      rw [hu] at ck
      rw [hv] at cs
      replace hu := Lib.hid hu
      replace hv := Lib.hid hv
      replace hL := Lib.hid hL
      replace hs' := Lib.hid hs'
      replace hown := Lib.hid hown
      replace hZ := Lib.hid hZ
      replace hb := Lib.hid hb
      replace hsz := Lib.hid hsz
      go_upto_region 9 with fail
      go_quiet (fail)
      obtain ⟨w8, hw8⟩ : ∃ W, W = wr.drewN nq := ⟨_, rfl⟩
      have bb8 : Below wr.heap.size wr w8 := by rw [hw8]; exact ⟨rfl, rfl, rfl, Nat.le_refl _, fun _ _ => rfl⟩
      rw [← hw8]
      clear hw8 ck cs z3
      have b8 := Lib.hid (bt hb.out bb8)
      have own8 := Lib.hid (hown.out.below bb8)
      have Z8 := Lib.hid (hZ.out.below bb8)
      have hsz8 := Lib.hid (Nat.le_trans hsz.out bb8.size)
      clear hb hown hZ bb8 hsz
      cases hq : (u == v)
      · have hs2 := Lib.hid (show partTo l s (k + 1) = L by rw [hs'.out, hq, if_neg (by simp), List.append_nil])
        go_wp2_with fail
        go_roundw
        case rel => exact ⟨k + 1, L, by omega, by go_num, hs2.out.symm, own8.out, Z8.out, hsz8.out, b8.out⟩
        case measure => simp [intOf]; omega
      · have hs2 := Lib.hid (show partTo l s (k + 1) = L ++ [(k : Int)] by rw [hs'.out, hq, if_pos rfl])
        obtain ⟨w9, hw9⟩ : ∃ W, W = w8.alloc (.cells #[.int .i64 k] 3) := ⟨_, rfl⟩
        have b9 : Below w8.heap.size w8 w9 := by rw [hw9]; exact (Below.refl _ _).alloc (Nat.le_refl _) _
        have hsl := Lib.hid (show Sl w9 1 (some ⟨w8.heap.size, 0, none⟩) ([(k : Int)].map ic) from bx_sl (T := 3) (vals := #[.int .i64 k]) (by rw [hw9]; exact Bx.new _ _ _ rfl) rfl (by intro c hc; simp at hc; subst hc; rfl))
        have own9 := Lib.hid (own8.out.below b9)
        have hb9 := Lib.hid (bt b8.out b9)
        have Z9 := Lib.hid (Z8.out.below b9)
        have hn1 : Hid ((L.map ic).length + ([(k : Int)].map ic).length ≤ 1000000) := Lib.hid (by rw [List.length_map]; have := hlenL.out; simp; omega)
        have hvl : Hid ((L.map ic).length = L.length) := Lib.hid (by rw [List.length_map])
        have hB2 : Hid (w3.heap.size ≤ w9.heap.size) := Lib.hid (Nat.le_trans hsz8.out b9.size)
        clear b9
        go_wp2_with (at_builtin; rw [← hw9]; (refine wpList_append_sl rfl (.tmp 30) (.tmp 32) 43 rfl IntP.elI (by rfl) own9.out (by rfl) (by rfl) hsl.out (wholeI _) (fun h => by cases h) hn1.out hB2.out ?_); intro v' w4 own1 grow1 _)
        have hgr : ∀ j, (Value.slice A3 L.length c3).ownBlock = some j → w3.heap.size ≤ j := fun j hj => (own9.out.lt j hj).1
        have b4 : Below w.heap.size w w4 := hb9.out.grown grow1 hb9.out.size (fun j hj => by have := hgr j hj; have := hw03.out; omega)
        have Z4 := Z9.out.grown grow1 (fun e => by have := hgr _ e.symm; have := hZl.out; omega)
        have hsz4 := Nat.le_trans hB2.out grow1.size
        go_roundw
        case rel => exact ⟨k + 1, L ++ [(k : Int)], by omega, by go_num, hs2.out.symm, own_snoc own1, Z4, hsz4, b4⟩
        case measure => simp [intOf]; omega
    · obtain rfl : k = l.n := by omega
      have hkl : ¬ ((l.n : Int) < l.segs) := by omega
      obtain rfl : L = l.part s := hL
      have hrow := Lib.hid (Row.own hown (by decide))
      replace hb := Lib.hid hb
      clear hown hZ
      go_wp2_with fail
      go_ret2
      exact ⟨_, _, rfl, hrow.out, hb.out⟩
set_option maxHeartbeats 16000000 in
theorem o_on_ok {l : L} {A : Option Addr} {c : Nat} {B : Option Addr} {d : Nat} {w : World} (hr : LanR w l A c B d) (hs : Small l) {s : Int} (hw : whyI l s = 0) :
    Calls Try.prog 20 #[lv l A c B d, .int .i64 s] w fun e w' => ∃ A1 c1 A2 c2, e = .returned (.tuple #[.slice A1 (hostsOf l.hosts s).length c1, .slice A2 (portsOf l.plans s).length c2, .int .i64 0]) ∧ Row hc 2 w' A1 (hostsOf l.hosts s).length c1 (hostsOf l.hosts s) ∧ Row ec 2 w' A2 (portsOf l.plans s).length c2 (portsOf l.plans s) ∧ Below w.heap.size w w' := by
  have H := Lib.hid hr
  have HS := Lib.hid hs
  obtain ⟨w0, hw0, X0, R0, B0⟩ := new3 w hr
  have hR := Lib.hid (o_check R0 hs s hw)
  replace hw := Lib.hid hw
  replace X0 := Lib.hid X0
  replace B0 := Lib.hid B0
  clear hr hs R0
  go_enter Try.func20, Try.ntmps20
  go_upto_region 1 with fail
  rw [← hw0]
  clear hw0
  have x0 := X0.out.c (i := 0) rfl
  have x1 := X0.out.c (i := 1) rfl
  have x2 := X0.out.c (i := 2) rfl
  have zz := X0.out.lt
  go_wp2_with fail
  go_at_call 48
  (with_reducible refine hR.out.mono ?_)
  rintro e w1 ⟨rfl, hb1⟩
  have B1 := Lib.hid (bt B0.out hb1)
  have X1 := Lib.hid (X0.out.below hb1)
  have H1 := Lib.hid (H.out.below B1.out)
  have hH := Lib.hid (fun W (hW : Below w1.heap.size w1 W) => o_hostson (H1.out.hosts.below hW) (by have := HS.out.hosts; omega) s)
  have hP := Lib.hid (fun W (hW : Below w1.heap.size w1 W) => o_portson (H1.out.plans.below hW) (by have := HS.out.plans; omega) HS.out.ports s)
  clear hb1 x0 x1 x2 zz hR
  have x0 := X1.out.c (i := 0) rfl
  have x1 := X1.out.c (i := 1) rfl
  have x2 := X1.out.c (i := 2) rfl
  have zz := X1.out.lt
  go_upto_region 4 with fail
  refine wp_region_ends (by kernel_rfl) (fun ix => match ix with | 0 => 14 | 1 => 15 | 2 => 16 | 3 => 17 | 4 => 18 | 5 => 19 | 6 => 20 | 7 => 21 | _ => 0) 8 (by kernel_rfl) (fun i v W => match i with | 0 => v = .pointer (some ⟨w.heap.size, 2, none⟩) | 1 => v = .slice B l.hosts.length d | 2 => v = .int .i64 s | 3 => ∃ A' c', v = .slice A' (hostsOf l.hosts s).length c' ∧ Row hc 2 W A' (hostsOf l.hosts s).length c' (hostsOf l.hosts s) | 4 => v = .pointer (some ⟨w.heap.size, 1, none⟩) | 5 => v = .slice A l.plans.length c | 6 => v = .int .i64 s | 7 => ∃ A' c', v = .slice A' (portsOf l.plans s).length c' ∧ Row ec 2 W A' (portsOf l.plans s).length c' (portsOf l.plans s) | _ => True) (fun i v W W' h hb => by
      match i with
      | 0 => exact h
      | 1 => exact h
      | 2 => exact h
      | 3 => exact (by obtain ⟨A', c', h1, h2⟩ := h; exact ⟨A', c', h1, h2.below hb⟩)
      | 4 => exact h
      | 5 => exact h
      | 6 => exact h
      | 7 => exact (by obtain ⟨A', c', h1, h2⟩ := h; exact ⟨A', c', h1, h2.below hb⟩)
      | n + 8 => exact trivial) ?_ ?_
  refine ⟨?_, ?_, ?_, ?_, ?_, ?_, ?_, ?_, trivial⟩
  · as_aux_lemma =>
      intro a W2 K hb hdep hk hK
      replace hK : ∀ v w', (v = .pointer (some ⟨w.heap.size, 2, none⟩)) → Below W2.heap.size W2 w' → K (a.put (some 14) v) w' := hK
      have d2 : a.tmps.getD 2 undef = .pointer (some ⟨w.heap.size, 0, none⟩) := hk 2 (by kernel_rfl)
      clear hdep hk hb
      go_simp
      exact hK _ _ rfl (Below.refl _ _)
  · as_aux_lemma =>
      intro a W2 K hb hdep hk hK
      replace hK : ∀ v w', (v = .slice B l.hosts.length d) → Below W2.heap.size W2 w' → K (a.put (some 15) v) w' := hK
      have d14 : a.tmps.getD 14 undef = .pointer (some ⟨w.heap.size, 2, none⟩) := hdep ⟨0, .data⟩ (by simp) rfl
      have t2 := (hb.cell (p := ⟨w.heap.size, 2, none⟩) zz).trans x2
      clear hdep hk hb
      go_simp
      exact hK _ _ rfl (Below.refl _ _)
  · as_aux_lemma =>
      intro a W2 K hb hdep hk hK
      replace hK : ∀ v w', (v = .int .i64 s) → Below W2.heap.size W2 w' → K (a.put (some 16) v) w' := hK
      have d1 : a.tmps.getD 1 undef = .int .i64 s := hk 1 (by kernel_rfl)
      clear hdep hk hb
      go_simp
      exact hK _ _ rfl (Below.refl _ _)
  · as_aux_lemma =>
      intro a W2 K hb hdep hk hK
      replace hK : ∀ v w', (∃ A' c', v = .slice A' (hostsOf l.hosts s).length c' ∧ Row hc 2 w' A' (hostsOf l.hosts s).length c' (hostsOf l.hosts s)) → Below W2.heap.size W2 w' → K (a.put (some 17) v) w' := hK
      have d15 : a.tmps.getD 15 undef = .slice B l.hosts.length d := hdep ⟨1, .data⟩ (by simp) rfl
      have d16 : a.tmps.getD 16 undef = .int .i64 s := hdep ⟨2, .data⟩ (by simp) rfl
      have hcall := hH.out W2 hb
      clear hdep hk hb
      have q15 : a.tmps[15]?.getD undef = .slice B l.hosts.length d := by simpa [Array.getD_eq_getD_getElem?] using d15
      clear d15
      have q16 : a.tmps[16]?.getD undef = .int .i64 s := by simpa [Array.getD_eq_getD_getElem?] using d16
      clear d16
      go_simp
      refine hcall.mono ?_
      rintro e w9 ⟨A9, c9, rfl, o9, hb9⟩
      exact hK _ _ ⟨A9, c9, rfl, Row.own o9 (by decide)⟩ hb9
  · as_aux_lemma =>
      intro a W2 K hb hdep hk hK
      replace hK : ∀ v w', (v = .pointer (some ⟨w.heap.size, 1, none⟩)) → Below W2.heap.size W2 w' → K (a.put (some 18) v) w' := hK
      have d2 : a.tmps.getD 2 undef = .pointer (some ⟨w.heap.size, 0, none⟩) := hk 2 (by kernel_rfl)
      clear hdep hk hb
      go_simp
      exact hK _ _ rfl (Below.refl _ _)
  · as_aux_lemma =>
      intro a W2 K hb hdep hk hK
      replace hK : ∀ v w', (v = .slice A l.plans.length c) → Below W2.heap.size W2 w' → K (a.put (some 19) v) w' := hK
      have d18 : a.tmps.getD 18 undef = .pointer (some ⟨w.heap.size, 1, none⟩) := hdep ⟨4, .data⟩ (by simp) rfl
      have t1 := (hb.cell (p := ⟨w.heap.size, 1, none⟩) zz).trans x1
      clear hdep hk hb
      go_simp
      exact hK _ _ rfl (Below.refl _ _)
  · as_aux_lemma =>
      intro a W2 K hb hdep hk hK
      replace hK : ∀ v w', (v = .int .i64 s) → Below W2.heap.size W2 w' → K (a.put (some 20) v) w' := hK
      have d1 : a.tmps.getD 1 undef = .int .i64 s := hk 1 (by kernel_rfl)
      clear hdep hk hb
      go_simp
      exact hK _ _ rfl (Below.refl _ _)
  · as_aux_lemma =>
      intro a W2 K hb hdep hk hK
      replace hK : ∀ v w', (∃ A' c', v = .slice A' (portsOf l.plans s).length c' ∧ Row ec 2 w' A' (portsOf l.plans s).length c' (portsOf l.plans s)) → Below W2.heap.size W2 w' → K (a.put (some 21) v) w' := hK
      have d19 : a.tmps.getD 19 undef = .slice A l.plans.length c := hdep ⟨5, .data⟩ (by simp) rfl
      have d20 : a.tmps.getD 20 undef = .int .i64 s := hdep ⟨6, .data⟩ (by simp) rfl
      have hcall := hP.out W2 hb
      clear hdep hk hb
      have q19 : a.tmps[19]?.getD undef = .slice A l.plans.length c := by simpa [Array.getD_eq_getD_getElem?] using d19
      clear d19
      have q20 : a.tmps[20]?.getD undef = .int .i64 s := by simpa [Array.getD_eq_getD_getElem?] using d20
      clear d20
      go_simp
      refine hcall.mono ?_
      rintro e w9 ⟨A9, c9, rfl, o9, hb9⟩
      exact hK _ _ ⟨A9, c9, rfl, Row.own o9 (by decide)⟩ hb9
  intro a W3 hb3 hsp hk hn hdf
  obtain ⟨AH, cH, h9, k9⟩ := hsp 3 (by decide)
  obtain ⟨AP, cP, h8, k8⟩ := hsp 7 (by decide)
  have s2 : a.tmps.getD 2 undef = .pointer (some ⟨w.heap.size, 0, none⟩) := hk 2 (by kernel_rfl)
  have s1 : a.tmps.getD 1 undef = .int .i64 s := hk 1 (by kernel_rfl)
  have s14 : a.tmps.getD 14 undef = .pointer (some ⟨w.heap.size, 2, none⟩) := hsp 0 (by decide)
  have s15 : a.tmps.getD 15 undef = .slice B l.hosts.length d := hsp 1 (by decide)
  have s16 : a.tmps.getD 16 undef = .int .i64 s := hsp 2 (by decide)
  have s18 : a.tmps.getD 18 undef = .pointer (some ⟨w.heap.size, 1, none⟩) := hsp 4 (by decide)
  have s19 : a.tmps.getD 19 undef = .slice A l.plans.length c := hsp 5 (by decide)
  have s20 : a.tmps.getD 20 undef = .int .i64 s := hsp 6 (by decide)
  have s17 : a.tmps.getD 17 undef = .slice AH (hostsOf l.hosts s).length cH := h9
  have s21 : a.tmps.getD 21 undef = .slice AP (portsOf l.plans s).length cP := h8
  clear hk hsp h9 h8
  obtain ⟨tm, df⟩ := a
  have e := arr_out tm 22 hn
  replace e : tm = #[tm.getD 0 undef, tm.getD 1 undef, tm.getD 2 undef, tm.getD 3 undef, tm.getD 4 undef, tm.getD 5 undef, tm.getD 6 undef, tm.getD 7 undef, tm.getD 8 undef, tm.getD 9 undef, tm.getD 10 undef, tm.getD 11 undef, tm.getD 12 undef, tm.getD 13 undef, tm.getD 14 undef, tm.getD 15 undef, tm.getD 16 undef, tm.getD 17 undef, tm.getD 18 undef, tm.getD 19 undef, tm.getD 20 undef, tm.getD 21 undef] := e
  simp only at s2 s1 s14 s15 s16 s18 s19 s20 s17 s21 hdf
  rw [s2, s1, s14, s15, s16, s18, s19, s20, s17, s21] at e
  subst hdf
  clear s2 s1 s14 s15 s16 s18 s19 s20 s17 s21 hn
  generalize tm.getD 0 undef = u0 at e
  generalize tm.getD 3 undef = u3 at e
  generalize tm.getD 4 undef = u4 at e
  generalize tm.getD 5 undef = u5 at e
  generalize tm.getD 6 undef = u6 at e
  generalize tm.getD 7 undef = u7 at e
  generalize tm.getD 8 undef = u8 at e
  generalize tm.getD 9 undef = u9 at e
  generalize tm.getD 10 undef = u10 at e
  generalize tm.getD 11 undef = u11 at e
  generalize tm.getD 12 undef = u12 at e
  generalize tm.getD 13 undef = u13 at e
  subst e
  simp only [List.drop_succ_cons, List.drop_zero]
  have Bf := Lib.hid (bt B1.out hb3)
  have r9 := Lib.hid k9
  have r8 := Lib.hid k8
  clear k9 k8 hb3
  go_wp2_with fail
  refine bodyPost_ret (v := .tuple #[.slice AH (hostsOf l.hosts s).length cH, .slice AP (portsOf l.plans s).length cP, .int .i64 0]) (by simp [results, Try.results20, go_sem]) rfl ⟨AH, cH, AP, cP, rfl, r9.out, r8.out, Bf.out⟩
end Go.Proofs.Ytgcmklliafcffaa.LanP
