/-
  Contracts of footwayref08: Pinned, Pin, Unpin; plain facts on them.
-/
import Derived.Test.YtnghilcjecjljaaFdbRK
namespace Go.Proofs.Ytnghilcjecjljaa.FdbP
open Go.RowKit Go.Sort Go.Proofs.Ytnghilcjecjljaa.SliceP Go.Proofs.Ytnghilcjecjljaa.MacP
set_option linter.unusedVariables false
set_option maxRecDepth 100000

theorem RowE.offBx {w : World} {A : Option Addr} {n c q : Nat} {l : List E} {T : TypeId} {v0 v1 v2 : Value} (h : RowE w A n c l) (X : Bx w q T #[v0, v1, v2]) : RowS (fun b => b = q) w A n c l := ⟨h, fun hl b o e hb => by
  subst hb
  rcases l with _ | ⟨x, xs⟩
  · exact hl rfl
  · obtain ⟨b', o', e', _, _, _, _, h3⟩ := h.at_ (k := 0) (x := x) rfl
    rw [e] at e'
    obtain ⟨rfl, rfl⟩ : b = b' ∧ o = o' := by simpa using e'
    rw [cell_of_row w b _ _ T (0, 0) X] at h3
    simp at h3⟩
def pinW (oe : Option E) : Bool := match oe with
  | none => false
  | some x => x.st
set_option maxHeartbeats 16000000 in
theorem r_pinned {A : Option Addr} {n c : Nat} {bs : List (List E)} (s ag a : Int) {w : World} (ht : TabS w A n c bs) (hs : Small bs) (hn : numB (bs.length : Int) = true) (hm : macB a = true) :
    Calls Try.prog 29 #[tbv (.slice A n c) s ag, .int .i64 a] w fun e w' => e = .returned (.bool (pinW (entO bs a))) ∧ Below w.heap.size w w' := by
  obtain ⟨kk, hk1, hk2, hk3⟩ := buck_at (a := a) hn
  have hbl := hs.2 _ (List.mem_of_getElem? hk3)
  obtain ⟨w0, hw0⟩ : ∃ w0, w0 = w.alloc (tObj (.slice A n c) s ag) := ⟨_, rfl⟩
  have B0 : Below w.heap.size w w0 := by rw [hw0]; exact (Below.refl _ _).alloc (Nat.le_refl _) _
  have Y := Lib.hid (show Bx w0 w.heap.size TT #[.slice A n c, .int .i64 s, .int .i64 ag] by rw [hw0]; exact Bx.new w _ _ rfl)
  have hb1 := r_buck s ag a (ht.below B0) hn hm
  obtain ⟨l, hl⟩ : ∃ l, buck bs a = l := ⟨_, rfl⟩
  have he : entO bs a = findE l a := by unfold entO; rw [hl]
  rw [he]
  rw [hl] at hbl hb1
  replace hb1 := Lib.hid hb1
  clear he hl
  clear ht hs hn hm hk1 hk2 hk3
  go_enter Try.func29, Try.ntmps29
  go_wp2_with fail
  rw [← hw0]
  clear hw0
  go_at_call 47
  (with_reducible refine hb1.out.mono ?_)
  rintro e w1 ⟨A1, n1, c1, rfl, R1, hb2⟩
  have B1 := Lib.hid (bt B0 hb2)
  replace R1 := Lib.hid R1
  clear hb1 hb2 Y B0
  go_wp2_with fail
  go_at_call 42
  (with_reducible refine (r_place R1.out hbl a).mono ?_)
  rintro e w2 ⟨rfl, hb2⟩
  have B2 := Lib.hid (bt B1.out hb2)
  have R2 := Lib.hid (R1.out.below hb2)
  clear hb2 B1 R1
  have hlen := Lib.hid R2.out.len
  have hcap := R2.out.cap
  cases ho : findE l a with
  | none =>
    rw [idx_find_none ho]
    replace ho := Lib.hid ho
    go_wp2_with fail
    go_ret
    exact ⟨by rw [ho.out]; rfl, B2.out⟩
  | some x =>
    obtain ⟨k, hk, hx⟩ := idx_find_some ho
    rw [hk]
    have hkl : k < l.length := (List.getElem?_eq_some_iff.1 hx).1
    obtain ⟨b, o, rfl, hbw, x0, x1, x2, x3⟩ := RowE.at_ R2.out hx
    have hkn : (k : Int) < (n1 : Int) := by have := hlen.out; omega
    have hk0 : (0 : Int) ≤ (k : Int) := by omega
    have hkd : decide ((0 : Int) ≤ (k : Int)) = true := by rw [decide_eq_true_eq]; omega
    replace ho := Lib.hid ho
    clear hk hx x0 x1 x2 R2
    go_wp2_with fail
    go_ret
    exact ⟨by rw [ho.out]; rfl, B2.out⟩
set_option maxHeartbeats 16000000 in
theorem r_pin {A : Option Addr} {n c : Nat} {bs : List (List E)} (s ag a port : Int) {w : World} (ht : TabS w A n c bs) (hs : Small bs) (hbl : ∀ l ∈ bs, l.length ≤ 100000) (hn : numB (bs.length : Int) = true) (hm : macB a = true) {o : Option (List (List E))} (ho : rPutO bs s ⟨a, port, 0, true⟩ = o) :
    Calls Try.prog 31 #[tbv (.slice A n c) s ag, .int .i64 a, .int .i64 port] w fun e w' => ∃ A n c, e = .returned (.tuple #[tbv (.slice A n c) s ag, .bool o.isSome]) ∧ TabS w' A n c (o.getD bs) ∧ Below w.heap.size w w' := by
  obtain ⟨w0, hw0⟩ : ∃ w0, w0 = (w.alloc (tObj (.slice A n c) s ag)).alloc (tObj (.slice none 0 0) 0 0) := ⟨_, rfl⟩
  have B0 := Lib.hid (show Below w.heap.size w w0 by rw [hw0]; exact ((Below.refl _ _).alloc (Nat.le_refl _) _).alloc (by simp) _)
  have Y := Lib.hid (show Bx w0 w.heap.size TT #[.slice A n c, .int .i64 s, .int .i64 ag] by rw [hw0]; exact (Bx.new w _ _ rfl).alloc _)
  obtain ⟨q, hq⟩ : ∃ q, q = w.heap.size + 1 := ⟨_, rfl⟩
  have X := Lib.hid (show Bx w0 q TT #[.slice none 0 0, .int .i64 0, .int .i64 0] by rw [hw0, hq]; exact Bx.new _ _ _ (by simp))
  have hqw : w.heap.size ≤ q := by omega
  have hT := ht.offS (S := fun b => b = q) (fun b hb => by subst hb; omega)
  have hpc := r_put s ag ⟨a, port, 0, true⟩ (hT.below B0.out) hs hbl hn hm (fun b hb => by subst hb; exact X.out.lt)
  rw [ho] at hpc
  replace hpc := Lib.hid hpc
  have e1 := Lib.hid hq
  have hz0 : w.heap.size < w0.heap.size := Y.out.lt
  have hz1 : q < w0.heap.size := X.out.lt
  clear ht hs hbl hn hm ho hT
  obtain ⟨y0, y1, y2⟩ := Bx.four' Y.out
  go_enter Try.func31, Try.ntmps31
  go_wp2_with fail
  rw [← e1.out, ← hw0]
  clear hw0 hq
  go_at_call 49
  (with_reducible refine hpc.out.mono ?_)
  rintro e w4 ⟨A4, n4, c4, rfl, T4, hb4⟩
  have X4 := Lib.hid (X.out.below hb4)
  have B4 := Lib.hid (bt B0.out hb4)
  replace T4 := Lib.hid T4
  clear hb4 Y X B0 y0 y1 y2 hz0 hz1 hpc
  obtain ⟨x0, x1, x2⟩ := Bx.four' X4.out
  have f0 := X4.out.f 0
  have f1 := X4.out.f 1
  have f2 := X4.out.f 2
  have hxl := X4.out.lt
  have hT9 := Lib.hid fun v0 v1 v2 => ((T4.out.keep (OffS.three (S := fun b => b = q) rfl w4 v0 v1 v2))).tab
  have hB9 := Lib.hid fun v0 v1 v2 => below3 B4.out hqw v0 v1 v2
  clear T4 B4
  go_wp2_with fail
  refine bodyPost_ret (v := .tuple #[tbv (.slice A4 n4 c4) s ag, .bool o.isSome]) (by simp [results, Try.results31, go_sem, x0, x1, x2]) rfl ⟨A4, n4, c4, rfl, hT9.out _ _ _, hB9.out _ _ _⟩
def spU (q : Nat) (TV : Value) (a s ag : Int) (l l' : List E) (bs' : List (List E)) (i : Nat) (v : Value) (W : World) : Prop := match i with
  | 0 => v = TV
  | 1 => v = .int .i64 a
  | 2 => v = TV
  | 3 => v = .int .i64 a
  | 4 => IsRow l v W
  | 5 => v = .int .i64 a
  | 6 => IsRow l' v W
  | 7 => IsTabO (fun b => b = q) s ag bs' v W
  | _ => True
theorem spU_mono {q : Nat} {TV : Value} {a s ag : Int} {l l' : List E} {bs' : List (List E)} (i : Nat) (v : Value) (w w' : World) (h : spU q TV a s ag l l' bs' i v w) (hb : Below w.heap.size w w') : spU q TV a s ag l l' bs' i v w' := by
  match i with
  | 0 | 1 | 2 | 3 | 5 => exact h
  | 4 | 6 => exact IsRow.below h hb
  | 7 => exact IsTabO.below h hb
  | n + 8 => exact trivial
def rUnpin (bs : List (List E)) (a : Int) : List (List E) := bs.set (bucketI a bs.length).toNat (keepL (isM a) (buck bs a))
set_option maxHeartbeats 16000000 in
theorem r_unpin {A : Option Addr} {n c : Nat} {bs : List (List E)} (s ag a : Int) {w : World} (ht : TabS w A n c bs) (hs : Small bs) (hbl : ∀ l ∈ bs, l.length ≤ 100000) (hn : numB (bs.length : Int) = true) (hm : macB a = true) :
    Calls Try.prog 30 #[tbv (.slice A n c) s ag, .int .i64 a] w (RetT w (rUnpin bs a) s ag) := by
  obtain ⟨kk, hk1, hk2, hk3⟩ := buck_at (a := a) hn
  have hb0 := hbl _ (List.mem_of_getElem? hk3)
  obtain ⟨w0, hw0⟩ : ∃ w0, w0 = (w.alloc (tObj (.slice A n c) s ag)).alloc (tObj (.slice none 0 0) 0 0) := ⟨_, rfl⟩
  have B0 := Lib.hid (show Below w.heap.size w w0 by rw [hw0]; exact ((Below.refl _ _).alloc (Nat.le_refl _) _).alloc (by simp) _)
  have Y := Lib.hid (show Bx w0 w.heap.size TT #[.slice A n c, .int .i64 s, .int .i64 ag] by rw [hw0]; exact (Bx.new w _ _ rfl).alloc _)
  obtain ⟨q, hq⟩ : ∃ q, q = w.heap.size + 1 := ⟨_, rfl⟩
  have X := Lib.hid (show Bx w0 q TT #[.slice none 0 0, .int .i64 0, .int .i64 0] by rw [hw0, hq]; exact Bx.new _ _ _ (by simp))
  have hqw : w.heap.size ≤ q := by omega
  have hT := ht.offS (S := fun b => b = q) (fun b hb => by subst hb; omega)
  have hTW := Lib.hid (fun W (hB : Below w.heap.size w W) => hT.below hB)
  obtain ⟨l, hl⟩ : ∃ l, buck bs a = l := ⟨_, rfl⟩
  obtain ⟨l', hl'⟩ : ∃ l', keepL (isM a) l = l' := ⟨_, rfl⟩
  obtain ⟨bs', hbs'⟩ : ∃ b, bs.set (bucketI a bs.length).toNat l' = b := ⟨_, rfl⟩
  have hru : rUnpin bs a = bs' := by unfold rUnpin; rw [hl, hl', hbs']
  rw [hru]
  have hbk := Lib.hid fun W (hB : Below w.heap.size w W) => (by have := r_buck s ag a (hTW.out W hB).tab hn hm; rwa [hl] at this : Calls Try.prog 47 #[tbv (.slice A n c) s ag, .int .i64 a] W (RetRow W l))
  have hwi := Lib.hid fun W (hB : Below w.heap.size w W) (hqW : q < W.heap.size) (A6 : Option Addr) (n6 c6 : Nat) (hr : RowS (fun b => b = q) W A6 n6 c6 l') => (by have := r_withS s ag a (hTW.out W hB) hr (fun b hb => by subst hb; exact hqW) hn hm; rwa [hbs'] at this : Calls Try.prog 55 #[tbv (.slice A n c) s ag, .int .i64 a, .slice A6 n6 c6] W (RetO (fun b => b = q) W bs' s ag))
  rw [hl] at hb0
  replace hb0 := Lib.hid hb0
  replace hl' := Lib.hid hl'
  have e1 := Lib.hid hq
  have hz0 : w.heap.size < w0.heap.size := Y.out.lt
  have hz1 : q < w0.heap.size := X.out.lt
  clear ht hs hbl hn hm hk1 hk2 hk3 hl hbs' hT hru hTW
  obtain ⟨y0, y1, y2⟩ := Bx.four' Y.out
  go_enter Try.func30, Try.ntmps30
  go_wp2_with fail
  rw [← e1.out, ← hw0]
  clear hw0 hq
  refine wp_region_free (by kernel_rfl) (fun ix => match ix with | 0 => 5 | 1 => 6 | 2 => 7 | 3 => 8 | 4 => 9 | 5 => 10 | 6 => 11 | 7 => 12 | _ => 0) 0 8 (fun _ => false) (fun _ => .bool true) (by decide) (by decide) rfl rfl (by kernel_rfl) (by kernel_rfl) (by kernel_rfl) (fun W' => Below w0.heap.size w0 W') (fun W' W'' => Below W'.heap.size W' W'') (fun W' h => h) (fun W' W'' h h' => bt h h') (fun W' W'' h h' => bt h h')
    (spU q (tbv (.slice A n c) s ag) a s ag l l' bs') spU_mono (fun i v W' W'' _ h _ hb => spU_mono i v W' W'' h hb) ?_
  refine ⟨?_, ?_, ?_, ?_, ?_, ?_, ?_, ?_, ?_, trivial⟩
  · as_aux_lemma =>
      intro a9 W2 K hR hm hdep hk hK hall
      replace hK : ∀ v w', spU q (tbv (.slice A n c) s ag) a s ag l l' bs' 0 v w' → Below W2.heap.size W2 w' → K (a9.put (some 5) v) w' := hK
      have hb := hR rfl
      have d2 : a9.tmps.getD 2 undef = .pointer (some ⟨w.heap.size, 0, none⟩) := hk 2 (by kernel_rfl)
      have t0 := (hb.cell (p := ⟨w.heap.size, 0, none⟩) hz0).trans y0
      have t1 := (hb.cell (p := ⟨w.heap.size, 1, none⟩) hz0).trans y1
      have t2 := (hb.cell (p := ⟨w.heap.size, 2, none⟩) hz0).trans y2
      clear hdep hk hm hR hall
      go_simp
      exact hK _ _ rfl (Below.refl _ _)
  · as_aux_lemma =>
      intro a9 W2 K hR hm hdep hk hK hall
      replace hK : ∀ v w', spU q (tbv (.slice A n c) s ag) a s ag l l' bs' 1 v w' → Below W2.heap.size W2 w' → K (a9.put (some 6) v) w' := hK
      have hb := hR rfl
      have d1 : a9.tmps.getD 1 undef = .int .i64 a := hk 1 (by kernel_rfl)
      clear hdep hk hm hR hall
      go_simp
      exact hK _ _ rfl (Below.refl _ _)
  · as_aux_lemma =>
      intro a9 W2 K hR hm hdep hk hK hall
      replace hK : ∀ v w', spU q (tbv (.slice A n c) s ag) a s ag l l' bs' 2 v w' → Below W2.heap.size W2 w' → K (a9.put (some 7) v) w' := hK
      have hb := hR rfl
      have d2 : a9.tmps.getD 2 undef = .pointer (some ⟨w.heap.size, 0, none⟩) := hk 2 (by kernel_rfl)
      have t0 := (hb.cell (p := ⟨w.heap.size, 0, none⟩) hz0).trans y0
      have t1 := (hb.cell (p := ⟨w.heap.size, 1, none⟩) hz0).trans y1
      have t2 := (hb.cell (p := ⟨w.heap.size, 2, none⟩) hz0).trans y2
      clear hdep hk hm hR hall
      go_simp
      exact hK _ _ rfl (Below.refl _ _)
  · as_aux_lemma =>
      intro a9 W2 K hR hm hdep hk hK hall
      replace hK : ∀ v w', spU q (tbv (.slice A n c) s ag) a s ag l l' bs' 3 v w' → Below W2.heap.size W2 w' → K (a9.put (some 8) v) w' := hK
      have hb := hR rfl
      have d1 : a9.tmps.getD 1 undef = .int .i64 a := hk 1 (by kernel_rfl)
      clear hdep hk hm hR hall
      go_simp
      exact hK _ _ rfl (Below.refl _ _)
  · as_aux_lemma =>
      intro a9 W2 K hR hm hdep hk hK hall
      replace hK : ∀ v w', spU q (tbv (.slice A n c) s ag) a s ag l l' bs' 4 v w' → Below W2.heap.size W2 w' → K (a9.put (some 9) v) w' := hK
      have hb := hR rfl
      have d7 : a9.tmps.getD 7 undef = tbv (.slice A n c) s ag := ((hdep ⟨2, .data⟩ (by simp) rfl (by decide)).2 rfl).2 rfl
      have d8 : a9.tmps.getD 8 undef = .int .i64 a := ((hdep ⟨3, .data⟩ (by simp) rfl (by decide)).2 rfl).2 rfl
      have hcall := Lib.hid (hbk.out W2 (bt B0.out hb))
      clear hdep hk hm hR hall
      have q7 : a9.tmps[7]?.getD undef = tbv (.slice A n c) s ag := by simpa [Array.getD_eq_getD_getElem?] using d7
      clear d7
      go_simp
      refine hcall.out.mono ?_
      rintro e w9 ⟨A8, n8, c8, rfl, r1, r2⟩
      exact hK _ _ ⟨A8, n8, c8, rfl, r1⟩ r2
  · as_aux_lemma =>
      intro a9 W2 K hR hm hdep hk hK hall
      replace hK : ∀ v w', spU q (tbv (.slice A n c) s ag) a s ag l l' bs' 5 v w' → Below W2.heap.size W2 w' → K (a9.put (some 10) v) w' := hK
      have hb := hR rfl
      have d1 : a9.tmps.getD 1 undef = .int .i64 a := hk 1 (by kernel_rfl)
      clear hdep hk hm hR hall
      go_simp
      exact hK _ _ rfl (Below.refl _ _)
  · as_aux_lemma =>
      intro a9 W2 K hR hm hdep hk hK hall
      replace hK : ∀ v w', spU q (tbv (.slice A n c) s ag) a s ag l l' bs' 6 v w' → Below W2.heap.size W2 w' → K (a9.put (some 11) v) w' := hK
      have hb := hR rfl
      obtain ⟨A8, n8, c8, d9, r1⟩ : IsRow l (a9.tmps.getD 9 undef) W2 := ((hdep ⟨4, .data⟩ (by simp) rfl (by decide)).2 rfl).2 rfl
      have d10 : a9.tmps.getD 10 undef = .int .i64 a := ((hdep ⟨5, .data⟩ (by simp) rfl (by decide)).2 rfl).2 rfl
      have hcall := r_without r1 hb0.out a
      rw [hl'.out] at hcall
      replace hcall := Lib.hid hcall
      clear hdep hk hm hR hall
      have q9 : a9.tmps[9]?.getD undef = .slice A8 n8 c8 := by simpa [Array.getD_eq_getD_getElem?] using d9
      clear d9
      go_simp
      refine hcall.out.mono ?_
      rintro e w9 ⟨A7, n7, c7, rfl, r3, r4⟩
      exact hK _ _ ⟨A7, n7, c7, rfl, r3⟩ r4
  · as_aux_lemma =>
      intro a9 W2 K hR hm hdep hk hK hall
      replace hK : ∀ v w', spU q (tbv (.slice A n c) s ag) a s ag l l' bs' 7 v w' → Below W2.heap.size W2 w' → K (a9.put (some 12) v) w' := hK
      have hb := hR rfl
      have d5 : a9.tmps.getD 5 undef = tbv (.slice A n c) s ag := ((hdep ⟨0, .data⟩ (by simp) rfl (by decide)).2 rfl).2 rfl
      have d6 : a9.tmps.getD 6 undef = .int .i64 a := ((hdep ⟨1, .data⟩ (by simp) rfl (by decide)).2 rfl).2 rfl
      obtain ⟨A8, n8, c8, d11, r1⟩ : IsRow l' (a9.tmps.getD 11 undef) W2 := ((hdep ⟨6, .data⟩ (by simp) rfl (by decide)).2 rfl).2 rfl
      have XW := X.out.below hb
      have hcall := Lib.hid (hwi.out W2 (bt B0.out hb) XW.lt A8 n8 c8 (r1.offBx XW))
      clear hdep hk hm hR hall
      clear XW
      have q5 : a9.tmps[5]?.getD undef = tbv (.slice A n c) s ag := by simpa [Array.getD_eq_getD_getElem?] using d5
      clear d5
      have q11 : a9.tmps[11]?.getD undef = .slice A8 n8 c8 := by simpa [Array.getD_eq_getD_getElem?] using d11
      clear d11
      go_simp
      refine hcall.out.mono ?_
      rintro e w9 ⟨A7, n7, c7, rfl, r3, r4⟩
      exact hK _ _ ⟨A7, n7, c7, rfl, r3⟩ r4
  · intro a9 W2 K hR hm hdep hk hK hall
    replace hK : ∀ w', (∀ a', Ended _ _ _ _ a9 a' → _) → K a9 w' := hK
    obtain ⟨hsp, hn, hdf⟩ := hall rfl
    obtain ⟨A8, n8, c8, h12, r1⟩ : IsTabO (fun b => b = q) s ag bs' (a9.tmps.getD 12 undef) W2 := hsp 7 (by decide) rfl
    have hb := hR rfl
    have XW := X.out.below hb
    obtain ⟨w2, hw2⟩ : ∃ w2, w2 = (((W2.setCell ⟨q, 0, none⟩ (.slice A8 n8 c8)).setCell ⟨q, 1, none⟩ (.int .i64 s)).setCell ⟨q, 2, none⟩ (.int .i64 ag)) := ⟨_, rfl⟩
    have hKK := Lib.hid (hK w2)
    obtain ⟨x0, x1, x2⟩ := Bx.four' XW
    have f0 := XW.f 0
    have f1 := XW.f 1
    have f2 := XW.f 2
    have hxl := XW.lt
    have hB2 := Lib.hid (show Below w.heap.size w w2 by rw [hw2]; exact below3 (bt B0.out hb) hqw _ _ _)
    have hT2 := Lib.hid (show TabS w2 A8 n8 c8 bs' by rw [hw2]; exact (r1.keep (OffS.three (S := fun b => b = q) rfl W2 _ _ _)).tab)
    have hX2 := Lib.hid (show Bx w2 q TT #[.slice A8 n8 c8, .int .i64 s, .int .i64 ag] by rw [hw2]; exact XW.three)
    have hP4 : a9.tmps.getD 4 undef = .pointer (some ⟨q, 0, none⟩) := hk 4 (by kernel_rfl)
    clear hK hsp hR hall r1 hm hdep
    replace hn := Lib.hid hn
    have q4' : a9.tmps[4]?.getD undef = .pointer (some ⟨q, 0, none⟩) := by simpa [Array.getD_eq_getD_getElem?] using hP4
    have q12 : a9.tmps[12]?.getD undef = tbv (.slice A8 n8 c8) s ag := by simpa [Array.getD_eq_getD_getElem?] using h12
    clear h12 hP4
    go_simp
    rw [← hw2]
    refine hKK.out ?_
    rintro am ⟨h1', h2', h3, h4⟩
    have hn2 := h1'.trans hn.out
    have hdf2 := h2'.trans hdf
    clear hw2 x0 x1 x2 f0 f1 f2 q4' q12 hn hdf h1' h2' XW hxl
    have s4 : am.tmps.getD 4 undef = .pointer (some ⟨q, 0, none⟩) := (h3 4 (by decide +revert)).trans (hk 4 (by kernel_rfl))
    clear hk hKK h3 h4
    obtain ⟨tm, df⟩ := am
    have e := arr_out tm 13 hn2
    replace e : tm = #[tm.getD 0 undef, tm.getD 1 undef, tm.getD 2 undef, tm.getD 3 undef, tm.getD 4 undef, tm.getD 5 undef, tm.getD 6 undef, tm.getD 7 undef, tm.getD 8 undef, tm.getD 9 undef, tm.getD 10 undef, tm.getD 11 undef, tm.getD 12 undef] := e
    simp only at s4 hdf2
    rw [s4] at e
    subst hdf2
    clear s4 hn2
    generalize tm.getD 0 undef = u0 at e
    generalize tm.getD 1 undef = u1 at e
    generalize tm.getD 2 undef = u2 at e
    generalize tm.getD 3 undef = u3 at e
    generalize tm.getD 5 undef = u5 at e
    generalize tm.getD 6 undef = u6 at e
    generalize tm.getD 7 undef = u7 at e
    generalize tm.getD 8 undef = u8 at e
    generalize tm.getD 9 undef = u9 at e
    generalize tm.getD 10 undef = u10 at e
    generalize tm.getD 11 undef = u11 at e
    generalize tm.getD 12 undef = u12 at e
    subst e
    simp only [Exit.then]
    obtain ⟨x0, x1, x2⟩ := Bx.four' hX2.out
    go_wp2_with fail
    refine bodyPost_ret (v := tbv (.slice A8 n8 c8) s ag) (by simp [results, Try.results30, go_sem, x0, x1, x2]) rfl ⟨A8, n8, c8, rfl, hT2.out, hB2.out⟩
/-
  Plain.
-/
theorem flush_eq {bs : List (List E)} {s ag port : Int} (h : rightT bs s ag = true) (hp : (portB port || port == -1) = true) : bs.map (keepL (flushR port)) = bs.map (keepL (flushP port)) := by
  apply List.map_congr_left
  intro l hl
  obtain ⟨k, hk⟩ := List.mem_iff_getElem?.1 hl
  unfold keepL
  refine List.filter_congr fun z hz => ?_
  congr 1
  unfold flushR flushP
  congr 1
  rw [Bool.or_eq_true] at hp
  rcases hp with hp | hp
  · have := portB_iff.1 hp
    have h1 : decide ((0 : Int) ≤ port) = true := by rw [decide_eq_true_eq]; omega
    have h2 : (port == -1) = false := by simp; omega
    rw [h1, h2]
    simp only [Bool.true_and, Bool.false_or]
    by_cases he : port = z.port
    · subst he; simp
    · have h3 : (port == z.port) = false := by simpa using he
      have h4 : (z.port != port) = true := by simpa using (fun e => he e.symm)
      rw [h3, h4]; rfl
  · have e : port = -1 := by simpa using hp
    subst e
    rfl
theorem pinned_eq {bs : List (List E)} {a : Int} : pinW (entO bs a) = (pinnedE bs a).isSome := by
  show pinW (findE (buck bs a) a) = ((findE (buck bs a) a).filter E.st).isSome
  cases hf : findE (buck bs a) a with
  | none => rfl
  | some x =>
    unfold pinW
    cases hs : x.st with
    | true => simp [Option.filter, hs]
    | false => simp [Option.filter, hs]
theorem unpin_eq {bs : List (List E)} {s ag a : Int} {bs' : List (List E)} (h : rightT bs s ag = true) (hu : unpinO bs a = some bs') : rUnpin bs a = bs' := by
  unfold unpinO pinnedE at hu
  obtain ⟨k, h1, h2, h3⟩ := right_buck h a
  obtain ⟨_, hnd, hbe⟩ := buck_right h a
  cases hf : findE (buck bs a) a with
  | none => rw [hf] at hu; cases hu
  | some y =>
    rw [hf] at hu
    have hy : y ∈ buck bs a ∧ y.mac = a := by
      unfold findE at hf
      exact ⟨List.mem_of_find?_eq_some hf, by simpa [isM] using List.find?_some hf⟩
    have hst : y.st = true := by
      cases hs : y.st with
      | true => rfl
      | false => simp [Option.filter, hs] at hu
    have hu' : bs' = bs.map (keepL (isE y)) := by
      simp [Option.filter, hst] at hu
      exact hu.symm
    rw [hu']
    unfold rUnpin
    have hke := keep_E hnd hy.1
    rw [hy.2] at hke
    rw [h1, Int.toNat_natCast, ← hke]
    have hq : ∀ (j : Nat) (l : List E), j ≠ k → bs[j]? = some l → ∀ z ∈ l, isE y z = false := fun j l hj hl z hz => by
      unfold isE
      rw [decide_eq_false_iff_not]
      rintro rfl
      exact other_bucket h h1 hj hl z hz hy.2
    rw [← set_keep hq]
    apply List.ext_getElem?
    intro j
    rw [List.getElem?_set, List.length_map]
    by_cases hj : k = j
    · subst hj
      rw [if_pos rfl, if_pos (List.getElem?_eq_some_iff.1 h3).1, List.getElem?_map, h3]
      rfl
    · rw [if_neg hj]
end Go.Proofs.Ytnghilcjecjljaa.FdbP
