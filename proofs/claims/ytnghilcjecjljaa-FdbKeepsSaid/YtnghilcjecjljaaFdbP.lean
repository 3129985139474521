/-
  fdb.Pin.
-/
import Derived.Test.YtnghilcjecjljaaFdbO
import Derived.Test.YtnghilcjecjljaaRegFree
namespace Go.Proofs.Ytnghilcjecjljaa.FdbP
open Go.RowKit Go.Sort Go.Proofs.Ytnghilcjecjljaa.SliceP Go.Proofs.Ytnghilcjecjljaa.MacP
set_option linter.unusedVariables false
set_option maxRecDepth 100000

def IsTab (B : Nat) (s ag : Int) (bs : List (List E)) (b : Bool) (v : Value) (W : World) : Prop := ∃ A n c, v = .tuple #[tbv (.slice A n c) s ag, .bool b] ∧ TabH B W A n c bs
def spN (TV : Value) (a p s ag : Int) (b : Bool) (bs : List (List E)) (B : Nat) (i : Nat) (v : Value) (W : World) : Prop := match i with
  | 0 => v = TV
  | 1 => v = .int .i64 a
  | 2 => v = .int .i64 p
  | 3 => v = ev a p 0 true
  | 4 => IsTab B s ag bs b v W
  | 5 => IsTab B s ag bs b v W
  | 6 => ∃ A n c, v = tbv (.slice A n c) s ag ∧ TabH B W A n c bs
  | 8 => ∃ q, v = .pointer (some ⟨q, 0, none⟩) ∧ B ≤ q ∧ Bx W q TT #[.slice none 0 0, .int .i64 0, .int .i64 0]
  | _ => True
theorem IsTab.below {B : Nat} {s ag : Int} {bs : List (List E)} {b : Bool} {v : Value} {w w' : World} (h : IsTab B s ag bs b v w) (hb : Below w.heap.size w w') : IsTab B s ag bs b v w' := by
  obtain ⟨A, n, c, h1, h2⟩ := h
  exact ⟨A, n, c, h1, h2.below hb⟩
theorem spN_mono {TV : Value} {a p s ag : Int} {b : Bool} {bs : List (List E)} {B : Nat} (i : Nat) (v : Value) (w w' : World) (h : spN TV a p s ag b bs B i v w) (hb : Below w.heap.size w w') : spN TV a p s ag b bs B i v w' := by
  match i with
  | 0 | 1 | 2 | 3 | 7 => exact h
  | 4 | 5 => exact IsTab.below h hb
  | 6 =>
    obtain ⟨A, n, c, h1, h2⟩ := h
    exact ⟨A, n, c, h1, h2.below hb⟩
  | 8 =>
    obtain ⟨q, h1, h2, h3⟩ := h
    exact ⟨q, h1, h2, h3.below hb⟩
  | n + 9 => exact trivial
set_option maxHeartbeats 8000000 in
theorem fdPin {A : Option Addr} {n c : Nat} {bs : List (List E)} (s ag a port : Int) {w : World} (ht : TabS w A n c bs) (hs : Small bs) (r : Bool) (hr : pinOk bs s ag a port = r) :
    Calls Try.prog 23 #[tbv (.slice A n c) s ag, .int .i64 a, .int .i64 port] w (RetOpt w r (pinO bs s a port) s ag 5) := by
  obtain ⟨w0, hw0⟩ : ∃ w0, w0 = (w.alloc (tObj (.slice A n c) s ag)).alloc (tObj (.slice none 0 0) 0 0) := ⟨_, rfl⟩
  have B0 : Below w.heap.size w w0 := by rw [hw0]; exact ((Below.refl _ _).alloc (Nat.le_refl _) _).alloc (by simp) _
  have Y : Bx w0 w.heap.size 24 #[.slice A n c, .int .i64 s, .int .i64 ag] := by rw [hw0]; exact (Bx.new w _ _ rfl).alloc _
  have X : Bx w0 (w.heap.size + 1) 24 #[.slice none 0 0, .int .i64 0, .int .i64 0] := by rw [hw0]; exact Bx.new _ _ _ (by simp)
  have hz0 : w.heap.size + 1 < w0.heap.size := X.lt
  have hR := Lib.hid (fdRight s ag (ht.below B0) hs _ rfl)
  have ht0 := Lib.hid (ht.below B0)
  replace Y := Lib.hid Y
  replace X := Lib.hid X
  clear ht
  cases h1 : rightT bs s ag with
  | false =>
    obtain rfl : r = false := by rw [← hr]; unfold pinOk; rw [h1]; first | done | rfl
    rw [h1] at hR
    replace h1 := Lib.hid h1
    clear hr
    go_enter Try.func23, Try.ntmps23
    go_wp2_with fail
    rw [← hw0]
    clear hw0
    go_at_call 12
    (with_reducible refine (hR.out).mono ?_)
    rintro e w1 ⟨rfl, hb1⟩
    have B1 := Lib.hid (bt B0 hb1)
    have X1 := Lib.hid (X.out.below hb1)
    have Y1 := Lib.hid (Y.out.below hb1)
    have T1 := Lib.hid (ht0.out.below hb1)
    have hz1 := Nat.lt_of_lt_of_le hz0 hb1.size
    clear hb1
    obtain ⟨x0, x1, x2⟩ := Bx.four' X1.out
    have f0 := X1.out.f 0
    have f1 := X1.out.f 1
    have f2 := X1.out.f 2
    go_wp2_with fail
    refine bodyPost_ret (v := .tuple #[tbv (.slice none 0 0) 0 0, .int .i64 1]) (by simp [results, Try.results23, go_sem, x0, x1, x2]) rfl ⟨none, 0, 0, rfl, fun _ _ => TabS.empty _, ?_⟩
    exact below3 B1.out (by omega) _ _ _
  | true =>
    rw [h1] at hR
    cases h2 : macB a with
    | false =>
      obtain rfl : r = false := by rw [← hr]; unfold pinOk; rw [h1, h2]; first | done | rfl
      replace h1 := Lib.hid h1
      replace h2 := Lib.hid h2
      clear hr
      go_enter Try.func23, Try.ntmps23
      go_wp2_with fail
      rw [← hw0]
      clear hw0
      go_at_call 12
      (with_reducible refine (hR.out).mono ?_)
      rintro e w1 ⟨rfl, hb1⟩
      have B1 := Lib.hid (bt B0 hb1)
      have X1 := Lib.hid (X.out.below hb1)
      have Y1 := Lib.hid (Y.out.below hb1)
      have T1 := Lib.hid (ht0.out.below hb1)
      have hz1 := Nat.lt_of_lt_of_le hz0 hb1.size
      clear hb1
      go_wp2_with fail
      go_at_call 33
      (with_reducible refine (station_is a _ _ h2.out).mono ?_)
      rintro e w9 ⟨rfl, rfl⟩
      obtain ⟨x0, x1, x2⟩ := Bx.four' X1.out
      have f0 := X1.out.f 0
      have f1 := X1.out.f 1
      have f2 := X1.out.f 2
      go_wp2_with fail
      refine bodyPost_ret (v := .tuple #[tbv (.slice none 0 0) 0 0, .int .i64 1]) (by simp [results, Try.results23, go_sem, x0, x1, x2]) rfl ⟨none, 0, 0, rfl, fun _ _ => TabS.empty _, ?_⟩
      exact below3 B1.out (by omega) _ _ _
    | true =>
      cases h3 : portB port with
      | false =>
        obtain rfl : r = false := by rw [← hr]; unfold pinOk; rw [h1, h2, h3]; first | done | rfl
        replace h1 := Lib.hid h1
        replace h2 := Lib.hid h2
        replace h3 := Lib.hid h3
        clear hr
        go_enter Try.func23, Try.ntmps23
        go_wp2_with fail
        rw [← hw0]
        clear hw0
        go_at_call 12
        (with_reducible refine (hR.out).mono ?_)
        rintro e w1 ⟨rfl, hb1⟩
        have B1 := Lib.hid (bt B0 hb1)
        have X1 := Lib.hid (X.out.below hb1)
        have Y1 := Lib.hid (Y.out.below hb1)
        have T1 := Lib.hid (ht0.out.below hb1)
        have hz1 := Nat.lt_of_lt_of_le hz0 hb1.size
        clear hb1
        go_wp2_with fail
        go_at_call 33
        (with_reducible refine (station_is a _ _ h2.out).mono ?_)
        rintro e w9 ⟨rfl, rfl⟩
        go_wp2_with fail
        go_at_call 34
        (with_reducible refine (port_is port _ _ h3.out).mono ?_)
        rintro e w9 ⟨rfl, rfl⟩
        obtain ⟨x0, x1, x2⟩ := Bx.four' X1.out
        have f0 := X1.out.f 0
        have f1 := X1.out.f 1
        have f2 := X1.out.f 2
        go_wp2_with fail
        refine bodyPost_ret (v := .tuple #[tbv (.slice none 0 0) 0 0, .int .i64 1]) (by simp [results, Try.results23, go_sem, x0, x1, x2]) rfl ⟨none, 0, 0, rfl, fun _ _ => TabS.empty _, ?_⟩
        exact below3 B1.out (by omega) _ _ _
      | true =>
        obtain rfl : r = true := by rw [← hr]; unfold pinOk; rw [h1, h2, h3]; first | done | rfl
        obtain ⟨o9, ho9⟩ : ∃ q, q = pinO bs s a port := ⟨_, rfl⟩
        have hput := Lib.hid fun (W : World) (hT : TabS W A n c bs) => fdPut s ag ⟨a, port, 0, true⟩ hT h1 h2
        have hpt : ∀ W e W', PutR W bs s ag ⟨a, port, 0, true⟩ e W' → ∃ A n c, e = .returned (.tuple #[tbv (.slice A n c) s ag, .bool o9.isSome]) ∧ TabH W.heap.size W' A n c (o9.getD bs) ∧ Below W.heap.size W W' := fun W e W' h => by rw [ho9]; exact h
        replace hpt := Lib.hid hpt
        rw [← ho9]
        replace ho9 := Lib.hid ho9
        replace h1 := Lib.hid h1
        replace h2 := Lib.hid h2
        replace h3 := Lib.hid h3
        clear hr
        go_enter Try.func23, Try.ntmps23
        go_wp2_with fail
        rw [← hw0]
        clear hw0
        go_at_call 12
        (with_reducible refine (hR.out).mono ?_)
        rintro e w1 ⟨rfl, hb1⟩
        have B1 := Lib.hid (bt B0 hb1)
        have X1 := Lib.hid (X.out.below hb1)
        have Y1 := Lib.hid (Y.out.below hb1)
        have T1 := Lib.hid (ht0.out.below hb1)
        have hz1 := Nat.lt_of_lt_of_le hz0 hb1.size
        clear hb1
        go_wp2_with fail
        go_at_call 33
        (with_reducible refine (station_is a _ _ h2.out).mono ?_)
        rintro e w9 ⟨rfl, rfl⟩
        go_wp2_with fail
        go_at_call 34
        (with_reducible refine (port_is port _ _ h3.out).mono ?_)
        rintro e w9 ⟨rfl, rfl⟩
        obtain ⟨y0, y1, y2⟩ := Bx.four' Y1.out
        have ly := Y1.out.lt
        go_wp2_with fail
        refine wp_region_free (by kernel_rfl) (fun ix => match ix with | 0 => 25 | 1 => 26 | 2 => 27 | 3 => 28 | 4 => 29 | 5 => 24 | 6 => 30 | 7 => 31 | 8 => 8 | 10 => 9 | _ => 0) 4 9 (fun ix => ix == 7 || ix == 10) (fun _ => .bool o9.isSome) (by decide) (by decide) rfl rfl (by kernel_rfl) (by kernel_rfl) (by kernel_rfl) (fun W => Below w1.heap.size w1 W) (fun W W' => Below W.heap.size W W') (fun W h => h) (fun W W' h h' => bt h h') (fun W W' h h' => bt h h')
          (spN (tbv (.slice A n c) s ag) a port s ag o9.isSome (o9.getD bs) w1.heap.size) spN_mono (fun i v W W' _ h _ hb => spN_mono i v W W' h hb) ?_
        refine ⟨?_, ?_, ?_, ?_, ?_, ?_, ?_, ?_, ?_, ?_, ?_, trivial⟩
        · as_aux_lemma =>
            intro a9 W2 K hR hm hdep hk hK hall
            replace hK : ∀ v w', spN (tbv (.slice A n c) s ag) a port s ag o9.isSome (o9.getD bs) w1.heap.size 0 v w' → Below W2.heap.size W2 w' → K (a9.put (some 25) v) w' := hK
            have d3 : a9.tmps.getD 3 undef = .pointer (some ⟨w.heap.size, 0, none⟩) := hk 3 (by kernel_rfl)
            have t0 := ((hR rfl).cell (p := ⟨w.heap.size, 0, none⟩) ly).trans y0
            have t1 := ((hR rfl).cell (p := ⟨w.heap.size, 1, none⟩) ly).trans y1
            have t2 := ((hR rfl).cell (p := ⟨w.heap.size, 2, none⟩) ly).trans y2
            clear hdep hk hm hR hall
            go_simp
            exact hK _ _ rfl (Below.refl _ _)
        · as_aux_lemma =>
            intro a9 W2 K hR hm hdep hk hK hall
            replace hK : ∀ v w', spN (tbv (.slice A n c) s ag) a port s ag o9.isSome (o9.getD bs) w1.heap.size 1 v w' → Below W2.heap.size W2 w' → K (a9.put (some 26) v) w' := hK
            have d1 : a9.tmps.getD 1 undef = .int .i64 a := hk 1 (by kernel_rfl)
            clear hdep hk hm hR hall
            go_simp
            exact hK _ _ rfl (Below.refl _ _)
        · as_aux_lemma =>
            intro a9 W2 K hR hm hdep hk hK hall
            replace hK : ∀ v w', spN (tbv (.slice A n c) s ag) a port s ag o9.isSome (o9.getD bs) w1.heap.size 2 v w' → Below W2.heap.size W2 w' → K (a9.put (some 27) v) w' := hK
            have d2 : a9.tmps.getD 2 undef = .int .i64 port := hk 2 (by kernel_rfl)
            clear hdep hk hm hR hall
            go_simp
            exact hK _ _ rfl (Below.refl _ _)
        · as_aux_lemma =>
            intro a9 W2 K hR hm hdep hk hK hall
            replace hK : ∀ v w', spN (tbv (.slice A n c) s ag) a port s ag o9.isSome (o9.getD bs) w1.heap.size 3 v w' → Below W2.heap.size W2 w' → K (a9.put (some 28) v) w' := hK
            have d26 : a9.tmps.getD 26 undef = .int .i64 a := ((hdep ⟨1, .data⟩ (by simp) rfl (by decide)).2 rfl).2 rfl
            have d27 : a9.tmps.getD 27 undef = .int .i64 port := ((hdep ⟨2, .data⟩ (by simp) rfl (by decide)).2 rfl).2 rfl
            clear hdep hk hm hR hall
            go_simp
            refine (pin_any a port W2).mono ?_
            rintro e w9 ⟨rfl, r1⟩
            exact hK _ _ rfl r1
        · as_aux_lemma =>
            intro a9 W2 K hR hm hdep hk hK hall
            replace hK : ∀ v w', spN (tbv (.slice A n c) s ag) a port s ag o9.isSome (o9.getD bs) w1.heap.size 4 v w' → Below W2.heap.size W2 w' → K (a9.put (some 29) v) w' := hK
            have d25 : a9.tmps.getD 25 undef = tbv (.slice A n c) s ag := ((hdep ⟨0, .data⟩ (by simp) rfl (by decide)).2 rfl).2 rfl
            have d28 : a9.tmps.getD 28 undef = ev a port 0 true := ((hdep ⟨3, .data⟩ (by simp) rfl (by decide)).2 rfl).2 rfl
            have hRs := (hR rfl).size
            have hcall := Lib.hid (hput.out W2 (T1.out.below (hR rfl)))
            clear hdep hk hm hR hall
            have q25 : a9.tmps[25]?.getD undef = tbv (.slice A n c) s ag := by simpa [Array.getD_eq_getD_getElem?] using d25
            clear d25
            have q28 : a9.tmps[28]?.getD undef = ev a port 0 true := by simpa [Array.getD_eq_getD_getElem?] using d28
            clear d28
            go_simp
            refine hcall.out.mono ?_
            intro e w9 h9
            obtain ⟨A8, n8, c8, rfl, r1, r2⟩ := hpt.out _ _ _ h9
            exact hK _ _ ⟨A8, n8, c8, rfl, r1.base hRs⟩ r2
        · as_aux_lemma =>
            intro a9 W2 K hR hm hdep hk hK hall
            replace hK : ∀ v w', spN (tbv (.slice A n c) s ag) a port s ag o9.isSome (o9.getD bs) w1.heap.size 5 v w' → Below W2.heap.size W2 w' → K (a9.put (some 24) v) w' := hK
            obtain ⟨A8, n8, c8, d29, r1⟩ : IsTab w1.heap.size s ag (o9.getD bs) o9.isSome (a9.tmps.getD 29 undef) W2 := ((hdep ⟨4, .data⟩ (by simp) rfl (by decide)).2 rfl).2 rfl
            clear hdep hk hm hR hall
            have q29 : a9.tmps[29]?.getD undef = .tuple #[tbv (.slice A8 n8 c8) s ag, .bool o9.isSome] := by simpa [Array.getD_eq_getD_getElem?] using d29
            clear d29
            go_simp
            exact hK _ _ ⟨A8, n8, c8, rfl, r1⟩ (Below.refl _ _)
        · as_aux_lemma =>
            intro a9 W2 K hR hm hdep hk hK hall
            replace hK : ∀ v w', spN (tbv (.slice A n c) s ag) a port s ag o9.isSome (o9.getD bs) w1.heap.size 6 v w' → Below W2.heap.size W2 w' → K (a9.put (some 30) v) w' := hK
            obtain ⟨A8, n8, c8, d24, r1⟩ : IsTab w1.heap.size s ag (o9.getD bs) o9.isSome (a9.tmps.getD 24 undef) W2 := ((hdep ⟨5, .data⟩ (by simp) rfl (by decide)).2 rfl).2 rfl
            clear hdep hk hm hR hall
            have q24 : a9.tmps[24]?.getD undef = .tuple #[tbv (.slice A8 n8 c8) s ag, .bool o9.isSome] := by simpa [Array.getD_eq_getD_getElem?] using d24
            clear d24
            go_simp
            exact hK _ _ ⟨A8, n8, c8, rfl, r1⟩ (Below.refl _ _)
        · as_aux_lemma =>
            intro a9 W2 K hR hm hdep hk hK hall
            replace hK : K (a9.put (some 31) (.bool o9.isSome)) W2 := hK
            obtain ⟨W9, A8, n8, c8, d24, r1⟩ : ∃ W9, IsTab w1.heap.size s ag (o9.getD bs) o9.isSome (a9.tmps.getD 24 undef) W9 := ((hdep ⟨5, .data⟩ (by simp) rfl (by decide)).2 rfl).1
            clear hdep hk hm hR hall
            have q24 : a9.tmps[24]?.getD undef = .tuple #[tbv (.slice A8 n8 c8) s ag, .bool o9.isSome] := by simpa [Array.getD_eq_getD_getElem?] using d24
            clear d24
            go_simp
            exact hK
        · as_aux_lemma =>
            intro a9 W2 K hR hm hdep hk hK hall
            replace hK : ∀ v w', spN (tbv (.slice A n c) s ag) a port s ag o9.isSome (o9.getD bs) w1.heap.size 8 v w' → Below W2.heap.size W2 w' → K (a9.put (some 8) v) w' := hK
            have hRs := (hR rfl).size
            clear hdep hk hm hR hall
            go_simp
            exact hK _ (W2.alloc (tObj (.slice none 0 0) 0 0)) ⟨W2.heap.size, rfl, hRs, Bx.new _ _ _ rfl⟩ ((Below.refl _ _).alloc (Nat.le_refl _) _)
        · intro a9 W2 K hR hm hdep hk hK hall
          replace hK : ∀ w', (∀ a', Ended _ _ _ _ a9 a' → _) → K a9 w' := hK
          obtain ⟨hsp, hn, hdf⟩ := hall rfl
          obtain ⟨A8, n8, c8, h30, r1⟩ : ∃ A n c, a9.tmps.getD 30 undef = tbv (.slice A n c) s ag ∧ TabH w1.heap.size W2 A n c (o9.getD bs) := hsp 6 (by decide) rfl
          obtain ⟨b8, h8, hb8, hbx⟩ : ∃ b, a9.tmps.getD 8 undef = .pointer (some ⟨b, 0, none⟩) ∧ w1.heap.size ≤ b ∧ Bx W2 b TT #[.slice none 0 0, .int .i64 0, .int .i64 0] := hsp 8 (by decide) rfl
          obtain ⟨w2, hw2⟩ : ∃ w2, w2 = (((W2.setCell ⟨b8, 0, none⟩ (.slice A8 n8 c8)).setCell ⟨b8, 1, none⟩ (.int .i64 s)).setCell ⟨b8, 2, none⟩ (.int .i64 ag)) := ⟨_, rfl⟩
          have hKK := Lib.hid (hK w2)
          have x0 := hbx.c (i := 0) rfl
          have x1 := hbx.c (i := 1) rfl
          have x2 := hbx.c (i := 2) rfl
          have f0 := hbx.f 0
          have f1 := hbx.f 1
          have f2 := hbx.f 2
          have hB2 := Lib.hid (show Below w1.heap.size w1 w2 by rw [hw2]; exact below3 (hR rfl) hb8 _ _ _)
          have hT2 := Lib.hid (show TabH w1.heap.size w2 A8 n8 c8 (o9.getD bs) by rw [hw2]; exact r1.hi (Hi.box3 hbx _ _ _))
          have hX2 := Lib.hid (show Bx w2 b8 TT #[.slice A8 n8 c8, .int .i64 s, .int .i64 ag] by rw [hw2]; exact hbx.three)
          clear hK hsp hR hbx hall r1
          replace hn := Lib.hid hn
          have q30 : a9.tmps[30]?.getD undef = tbv (.slice A8 n8 c8) s ag := by simpa [Array.getD_eq_getD_getElem?] using h30
          clear h30
          go_simp
          rw [← hw2]
          refine hKK.out ?_
          rintro am ⟨h1', h2', h3, h4⟩
          have hn2 := h1'.trans hn.out
          have hdf2 := h2'.trans hdf
          clear hw2 x0 x1 x2 f0 f1 f2 q30 hn hdf h1' h2' y0 y1 y2
          have s0 : am.tmps.getD 0 undef = tbv (.slice A n c) s ag := (h3 0 (by decide +revert)).trans (hk 0 (by kernel_rfl))
          have s1 : am.tmps.getD 1 undef = .int .i64 a := (h3 1 (by decide +revert)).trans (hk 1 (by kernel_rfl))
          have s2 : am.tmps.getD 2 undef = .int .i64 port := (h3 2 (by decide +revert)).trans (hk 2 (by kernel_rfl))
          have s3 : am.tmps.getD 3 undef = .pointer (some ⟨w.heap.size, 0, none⟩) := (h3 3 (by decide +revert)).trans (hk 3 (by kernel_rfl))
          have s6 : am.tmps.getD 6 undef = .pointer (some ⟨w.heap.size + 1, 0, none⟩) := (h3 6 (by decide +revert)).trans (hk 6 (by kernel_rfl))
          have s7 : am.tmps.getD 7 undef = .int .i64 0 := (h3 7 (by decide +revert)).trans (hk 7 (by kernel_rfl))
          have s8 : am.tmps.getD 8 undef = .pointer (some ⟨b8, 0, none⟩) := (h3 8 (by decide +revert)).trans h8
          have s9 : am.tmps.getD 9 undef = .bool o9.isSome := h4 10 (by decide +revert) rfl
          clear hk hKK h8 h3 h4
          obtain ⟨tm, df⟩ := am
          have e := arr_out tm 36 hn2
          replace e : tm = #[tm.getD 0 undef, tm.getD 1 undef, tm.getD 2 undef, tm.getD 3 undef, tm.getD 4 undef, tm.getD 5 undef, tm.getD 6 undef, tm.getD 7 undef, tm.getD 8 undef, tm.getD 9 undef, tm.getD 10 undef, tm.getD 11 undef, tm.getD 12 undef, tm.getD 13 undef, tm.getD 14 undef, tm.getD 15 undef, tm.getD 16 undef, tm.getD 17 undef, tm.getD 18 undef, tm.getD 19 undef, tm.getD 20 undef, tm.getD 21 undef, tm.getD 22 undef, tm.getD 23 undef, tm.getD 24 undef, tm.getD 25 undef, tm.getD 26 undef, tm.getD 27 undef, tm.getD 28 undef, tm.getD 29 undef, tm.getD 30 undef, tm.getD 31 undef, tm.getD 32 undef, tm.getD 33 undef, tm.getD 34 undef, tm.getD 35 undef] := e
          simp only at s0 s1 s2 s3 s6 s7 s8 s9 hdf2
          rw [s0, s1, s2, s3, s6, s7, s8, s9] at e
          subst hdf2
          clear s0 s1 s2 s3 s6 s7 s8 s9 hn2
          generalize tm.getD 4 undef = u4 at e
          generalize tm.getD 5 undef = u5 at e
          generalize tm.getD 10 undef = u10 at e
          generalize tm.getD 11 undef = u11 at e
          generalize tm.getD 12 undef = u12 at e
          generalize tm.getD 13 undef = u13 at e
          generalize tm.getD 14 undef = u14 at e
          generalize tm.getD 15 undef = u15 at e
          generalize tm.getD 16 undef = u16 at e
          generalize tm.getD 17 undef = u17 at e
          generalize tm.getD 18 undef = u18 at e
          generalize tm.getD 19 undef = u19 at e
          generalize tm.getD 20 undef = u20 at e
          generalize tm.getD 21 undef = u21 at e
          generalize tm.getD 22 undef = u22 at e
          generalize tm.getD 23 undef = u23 at e
          generalize tm.getD 24 undef = u24 at e
          generalize tm.getD 25 undef = u25 at e
          generalize tm.getD 26 undef = u26 at e
          generalize tm.getD 27 undef = u27 at e
          generalize tm.getD 28 undef = u28 at e
          generalize tm.getD 29 undef = u29 at e
          generalize tm.getD 30 undef = u30 at e
          generalize tm.getD 31 undef = u31 at e
          generalize tm.getD 32 undef = u32 at e
          generalize tm.getD 33 undef = u33 at e
          generalize tm.getD 34 undef = u34 at e
          generalize tm.getD 35 undef = u35 at e
          subst e
          simp only [Exit.then]
          have hB3 := Lib.hid (bt B1.out hB2.out)
          have X3 := X1.out.below hB2.out
          obtain ⟨x0, x1, x2⟩ := Bx.four' X3
          have f0 := X3.f 0
          have f1 := X3.f 1
          have f2 := X3.f 2
          obtain ⟨y0, y1, y2⟩ := Bx.four' hX2.out
          clear X3
          cases o9 with
          | none =>
            go_wp2_with fail
            refine bodyPost_ret (v := .tuple #[tbv (.slice none 0 0) 0 0, .int .i64 5]) (by simp [results, Try.results23, go_sem, x0, x1, x2]) rfl ⟨none, 0, 0, rfl, fun _ _ => TabS.empty _, ?_⟩
            exact below3 hB3.out (by omega) _ _ _
          | some bs9 =>
            have hfin := Lib.hid (TabH.base (hT2.out.hi (Hi.three w2 hz1 (.slice A8 n8 c8) (.int .i64 s) (.int .i64 ag))) (show w.heap.size ≤ w1.heap.size by omega))
            go_wp2_with fail
            refine bodyPost_ret (v := .tuple #[tbv (.slice A8 n8 c8) s ag, .int .i64 0]) (by simp [results, Try.results23, go_sem, x0, x1, x2]) rfl ⟨_, _, _, rfl, hfin.out, ?_⟩
            exact below3 hB3.out (by omega) _ _ _
        · as_aux_lemma =>
            intro a9 W2 K hR hm hdep hk hK hall
            replace hK : K (a9.put (some 9) (.bool o9.isSome)) W2 := hK
            have d31 : a9.tmps.getD 31 undef = .bool o9.isSome := (hdep ⟨7, .data⟩ (by simp) rfl (by decide)).1 rfl
            clear hdep hk hm hR hall
            go_simp
            exact hK
end Go.Proofs.Ytnghilcjecjljaa.FdbP
