/-
  fdb.look, isRight, isBucket, Right.
-/
import Derived.Test.YtnghilcjecjljaaFdbB
namespace Go.Proofs.Ytnghilcjecjljaa.FdbP
open Go.RowKit Go.Sort Go.Proofs.Ytnghilcjecjljaa.SliceP Go.Proofs.Ytnghilcjecjljaa.MacP
set_option linter.unusedVariables false
set_option maxRecDepth 100000

/-- What a region keeps that writes one box: all but that box, and that holds what it held, or what it is to hold. -/
def RS (rb : Nat) (T : TypeId) (vals : Array Value) (w w' : World) : Prop := w.grownBy w' (some rb) ∧ ∀ u, Bx w rb T u → Bx w' rb T u ∨ Bx w' rb T vals
section
variable {rb : Nat} {T : TypeId} {vals : Array Value} {x y z w w' : World}
theorem RS.trans (h : RS rb T vals x y) (k : RS rb T vals y z) : RS rb T vals x z := ⟨h.1.trans k.1, fun u hu => by
  rcases h.2 u hu with h1 | h1
  · exact k.2 u h1
  · exact .inr (by rcases k.2 _ h1 with h2 | h2 <;> exact h2)⟩
theorem RS.below (h : Below w.heap.size w w') : RS rb T vals w w' := ⟨⟨h.os, h.tape, h.output, h.size, fun k hk _ => h.block k hk⟩, fun u hu => .inl (hu.below h)⟩
theorem RS.refl (w : World) : RS rb T vals w w := RS.below (Below.refl _ _)
theorem RS.drew (w : World) : RS rb T vals w { w with drawn := w.drawn + 1 } := RS.below (Below.refl _ _).drew
theorem RS.cell (h : RS rb T vals w w') {b o : Nat} {v : Value} (hc : w.cell? ⟨b, o, none⟩ = some v) (hb : b ≠ rb) : w'.cell? ⟨b, o, none⟩ = some v := h.1.cell hc (by simpa using hb)
theorem RS.bel {n : Nat} (h : RS rb T vals w w') (hn : n ≤ rb) (hs : n ≤ w.heap.size) : Below n w w' := ⟨h.1.os, h.1.tape, h.1.output, h.1.size, fun k hk => h.1.block k (by omega) (by simp; omega)⟩
theorem RS.rowE (h : RS rb T vals w w') {A : Option Addr} {n c : Nat} {l : List E} (hr : RowE w A n c l) (hne : l ≠ [] → ∀ b o, A = some ⟨b, o, none⟩ → b ≠ rb) : RowE w' A n c l :=
  ⟨hr.len, fun hn => by
    obtain ⟨b, o, rfl, hb, hx⟩ := hr.sl hn
    exact ⟨b, o, rfl, Nat.lt_of_lt_of_le hb h.1.size, fun k cs hk j v hj => h.cell (hx k cs hk j v hj) (hne (by simpa using hn) b o rfl)⟩, hr.cap, hr.nil⟩
end
theorem Bx.four {w : World} {b : Nat} {T : TypeId} {v0 v1 v2 v3 u0 u1 u2 u3 : Value} (h : Bx w b T #[v0, v1, v2, v3]) : Bx ((((w.setCell ⟨b, 0, none⟩ u0).setCell ⟨b, 1, none⟩ u1).setCell ⟨b, 2, none⟩ u2).setCell ⟨b, 3, none⟩ u3) b T #[u0, u1, u2, u3] := (((h.set 0 u0).set 1 u1).set 2 u2).set 3 u3
theorem RowE.lt {w : World} {A : Option Addr} {n c : Nat} {l : List E} (hr : RowE w A n c l) (hl : l ≠ []) : ∀ b o, A = some ⟨b, o, none⟩ → b < w.heap.size := fun b o e => by
  obtain ⟨b', o', e', hb, _⟩ := hr.sl (by simpa using hl)
  rw [e] at e'
  simp at e'
  omega
theorem RowE.bel' {w w' : World} {m : Nat} {A : Option Addr} {n c : Nat} {l : List E} (hr : RowE w A n c l) (hb : Below m w w') (hm : w.heap.size ≤ m) : RowE w' A n c l := hr.below (hb.mono hm)

/-- The bucket of an address. -/
def buck (bs : List (List E)) (a : Int) : List E := bs.getD (bucketI a bs.length).toNat []
theorem bucketI_bd (a : Int) (n : Int) (h : numB n = true) : 0 ≤ bucketI a n ∧ bucketI a n < n ∧ n ≤ 16 ∧ 1 ≤ n := by
  have hn := numB_cases h
  exact ⟨Int.emod_nonneg _ (by omega), Int.emod_lt_of_pos _ (by omega), by omega, by omega⟩
theorem buck_at {bs : List (List E)} {a : Int} (h : numB (bs.length : Int) = true) : ∃ k : Nat, bucketI a bs.length = (k : Int) ∧ k < bs.length ∧ bs[k]? = some (buck bs a) := by
  obtain ⟨h0, h1, _, _⟩ := bucketI_bd a _ h
  refine ⟨(bucketI a bs.length).toNat, by omega, by omega, ?_⟩
  unfold buck
  rw [List.getD_eq_getElem?_getD, List.getElem?_eq_getElem (by omega)]
  rfl
theorem setCell_grown' (w : World) (b o : Nat) (v : Value) : w.grownBy (w.setCell ⟨b, o, none⟩ v) (some b) :=
  ⟨rfl, rfl, rfl, by simp, fun k _ hk => Below.heap_setCell _ _ _ k (fun e => hk (by rw [e]))⟩
def lookSp (tb b o n c n' c' k : Nat) (A' : Option Addr) (s ag aa : Int) (x : E) (bo : Bool) (i : Nat) (v : Value) : Prop := match i with | 0 => v = .pointer (some ⟨tb, 0, none⟩) | 1 => v = .slice (some ⟨b, o, none⟩) n c | 2 => v = tbv (.slice (some ⟨b, o, none⟩) n c) s ag | 3 => v = .int .i64 aa | 4 => v = .int .i64 k | 5 => v = .pointer (some ⟨b, o + k, none⟩) | 6 => v = .slice A' n' c' | 7 => v = .int .i64 aa | 8 => v = .tuple #[x.val, .bool bo] | 9 => v = x.val | 10 => v = .bool bo | 12 => v = .bool bo | _ => True
set_option maxHeartbeats 4000000 in
theorem look_any {A : Option Addr} {n c : Nat} {bs : List (List E)} (s ag aa : Int) {w : World} (ht : TabS w A n c bs) (h0 : 0 ≤ aa) (h1 : aa < 281474976710656) (hn : numB (bs.length : Int) = true) (hl : (buck bs aa).length ≤ 1000000) (oe : Option E) (ho : findE (buck bs aa) aa = oe) :
    Calls Try.prog 36 #[tbv (.slice A n c) s ag, .int .i64 aa] w fun e w' => e = .returned (.tuple #[(oe.getD zE).val, .bool oe.isSome]) ∧ Below w.heap.size w w' := by
  obtain rfl := ht.len
  obtain ⟨k, hk, hkl, hkb⟩ := buck_at (a := aa) hn
  obtain ⟨b, o, A', n', c', rfl, hbw, y3, hr⟩ := ht.at_ k _ hkb
  obtain ⟨x, hx⟩ : ∃ x, oe.getD zE = x := ⟨_, rfl⟩
  obtain ⟨bo, hbo⟩ : ∃ x, oe.isSome = x := ⟨_, rfl⟩
  rw [hx, hbo]
  replace hx := Lib.hid hx
  replace hbo := Lib.hid hbo
  have HO := Lib.hid ho
  have HN := Lib.hid hn
  have hkk := Lib.hid hk
  have hki : (k : Int) < (bs.length : Int) := by omega
  clear ho hn hk hkb
  obtain ⟨w0, hw0⟩ : ∃ w0, w0 = (w.alloc (tObj (.slice (some ⟨b, o, none⟩) bs.length c) s ag)).alloc (eObj 0 0 0 false) := ⟨_, rfl⟩
  have B0 : Below w.heap.size w w0 := by rw [hw0]; exact ((Below.refl _ _).alloc (Nat.le_refl _) _).alloc (by simp) _
  have Y : Bx w0 w.heap.size 24 #[.slice (some ⟨b, o, none⟩) bs.length c, .int .i64 s, .int .i64 ag] := by rw [hw0]; exact (Bx.new w _ _ rfl).alloc _
  have X : Bx w0 (w.heap.size + 1) 57 #[.int .i64 0, .int .i64 0, .int .i64 0, .bool false] := by rw [hw0]; exact Bx.new _ _ _ (by simp)
  have y0 := Y.c (i := 0) rfl
  have y1 := Y.c (i := 1) rfl
  have y2 := Y.c (i := 2) rfl
  replace y3 := (B0.cell (p := ⟨b, _, none⟩) hbw).trans y3
  have HR := Lib.hid (hr.below B0)
  have X1 := Lib.hid X
  have hrb : Hid (buck bs aa ≠ [] → ∀ b o, A' = some ⟨b, o, none⟩ → b ≠ w.heap.size + 1) := Lib.hid fun hne b o e => by
    have := hr.lt hne b o e; omega
  clear X Y hr
  have htb : w.heap.size ≠ w.heap.size + 1 := by omega
  have hbb : b ≠ w.heap.size + 1 := by omega
  have hrbl : w.heap.size ≤ w.heap.size + 1 := by omega
  go_enter Try.func36, Try.ntmps36
  go_wp2_with fail
  rw [← hw0]
  clear hw0 hbw
  have hlb : w.heap.size ≤ w.heap.size + 1 := by omega
  have hz0 := B0.size
  generalize w.heap.size + 1 = rb at *
  generalize hTB : w.heap.size = tb at *
  replace hTB := Lib.hid hTB
  refine wp_region_all (by kernel_rfl) (RS rb 57 #[.int .i64 x.mac, .int .i64 x.port, .int .i64 x.seen, .bool x.st]) RS.trans RS.drew (fun i => if i = 12 then 5 else i + 6) 11 [] (by decide) (by kernel_rfl) (by kernel_rfl) (by kernel_rfl)
    (fun i v _ => lookSp tb b o bs.length c n' c' k A' s ag aa x bo i v) (fun i v w w' h _ => h) (fun _ w => Bx w rb 57 #[.int .i64 x.mac, .int .i64 x.port, .int .i64 x.seen, .bool x.st]) (fun σ σ' w w' _ hR h => by rcases hR.2 _ h with h | h <;> exact h) ?_ ?_
  · refine ⟨?_, ?_, ?_, ?_, ?_, ?_, ?_, ?_, ?_, ?_, ?_, ?_, ?_, trivial⟩
    · intro a W2 K hR hdep hk hK
      replace hK : ∀ v w', v = .pointer (some ⟨tb, 0, none⟩) → RS rb 57 #[.int .i64 x.mac, .int .i64 x.port, .int .i64 x.seen, .bool x.st] W2 w' → K (a.put (some 6) v) w' := hK
      have f2 : a.tmps.getD 2 undef = .pointer (some ⟨tb, 0, none⟩) := hk 2 (by kernel_rfl)
      clear hdep hk hR
      go_simp
      exact hK _ _ rfl (RS.refl _)
    · intro a W2 K hR hdep hk hK
      replace hK : ∀ v w', v = .slice (some ⟨b, o, none⟩) bs.length c → RS rb 57 #[.int .i64 x.mac, .int .i64 x.port, .int .i64 x.seen, .bool x.st] W2 w' → K (a.put (some 7) v) w' := hK
      have d0 : a.tmps.getD 6 undef = .pointer (some ⟨tb, 0, none⟩) := hdep ⟨0, .data⟩ (by simp) rfl (by decide)
      have t0 := hR.cell y0 htb
      clear hdep hk hR
      go_simp
      exact hK _ _ rfl (RS.refl _)
    · intro a W2 K hR hdep hk hK
      replace hK : ∀ v w', v = tbv (.slice (some ⟨b, o, none⟩) bs.length c) s ag → RS rb 57 #[.int .i64 x.mac, .int .i64 x.port, .int .i64 x.seen, .bool x.st] W2 w' → K (a.put (some 8) v) w' := hK
      have f2 : a.tmps.getD 2 undef = .pointer (some ⟨tb, 0, none⟩) := hk 2 (by kernel_rfl)
      have t0 := hR.cell y0 htb
      have t1 := hR.cell y1 htb
      have t2 := hR.cell y2 htb
      clear hdep hk hR
      go_simp
      exact hK _ _ rfl (RS.refl _)
    · intro a W2 K hR hdep hk hK
      replace hK : ∀ v w', v = .int .i64 aa → RS rb 57 #[.int .i64 x.mac, .int .i64 x.port, .int .i64 x.seen, .bool x.st] W2 w' → K (a.put (some 9) v) w' := hK
      have f1 : a.tmps.getD 1 undef = .int .i64 aa := hk 1 (by kernel_rfl)
      clear hdep hk hR
      go_simp
      exact hK _ _ rfl (RS.refl _)
    · intro a W2 K hR hdep hk hK
      replace hK : ∀ v w', v = .int .i64 k → RS rb 57 #[.int .i64 x.mac, .int .i64 x.port, .int .i64 x.seen, .bool x.st] W2 w' → K (a.put (some 10) v) w' := hK
      have d2 : a.tmps.getD 8 undef = tbv (.slice (some ⟨b, o, none⟩) bs.length c) s ag := hdep ⟨2, .data⟩ (by simp) rfl (by decide)
      have d3 : a.tmps.getD 9 undef = .int .i64 aa := hdep ⟨3, .data⟩ (by simp) rfl (by decide)
      clear hdep hk hR
      have q2 : a.tmps[8]?.getD undef = tbv (.slice (some ⟨b, o, none⟩) bs.length c) s ag := by simpa [Array.getD_eq_getD_getElem?] using d2
      clear d2
      go_simp
      refine (placeOf_any s ag aa _ h0 h1 HN.out).mono ?_
      rintro e w2 ⟨rfl, hb2⟩
      rw [hkk.out]
      exact hK _ _ rfl (RS.below hb2)
    · intro a W2 K hR hdep hk hK
      replace hK : ∀ v w', v = .pointer (some ⟨b, o + k, none⟩) → RS rb 57 #[.int .i64 x.mac, .int .i64 x.port, .int .i64 x.seen, .bool x.st] W2 w' → K (a.put (some 11) v) w' := hK
      have d1 : a.tmps.getD 7 undef = .slice (some ⟨b, o, none⟩) bs.length c := hdep ⟨1, .data⟩ (by simp) rfl (by decide)
      have d4 : a.tmps.getD 10 undef = .int .i64 k := hdep ⟨4, .data⟩ (by simp) rfl (by decide)
      clear hdep hk hR
      go_simp
      exact hK _ _ rfl (RS.refl _)
    · intro a W2 K hR hdep hk hK
      replace hK : ∀ v w', v = .slice A' n' c' → RS rb 57 #[.int .i64 x.mac, .int .i64 x.port, .int .i64 x.seen, .bool x.st] W2 w' → K (a.put (some 12) v) w' := hK
      have d5 : a.tmps.getD 11 undef = .pointer (some ⟨b, o + k, none⟩) := hdep ⟨5, .data⟩ (by simp) rfl (by decide)
      have t0 := hR.cell y3 hbb
      clear hdep hk hR
      go_simp
      exact hK _ _ rfl (RS.refl _)
    · intro a W2 K hR hdep hk hK
      replace hK : ∀ v w', v = .int .i64 aa → RS rb 57 #[.int .i64 x.mac, .int .i64 x.port, .int .i64 x.seen, .bool x.st] W2 w' → K (a.put (some 13) v) w' := hK
      have f1 : a.tmps.getD 1 undef = .int .i64 aa := hk 1 (by kernel_rfl)
      clear hdep hk hR
      go_simp
      exact hK _ _ rfl (RS.refl _)
    · intro a W2 K hR hdep hk hK
      replace hK : ∀ v w', v = .tuple #[x.val, .bool bo] → RS rb 57 #[.int .i64 x.mac, .int .i64 x.port, .int .i64 x.seen, .bool x.st] W2 w' → K (a.put (some 14) v) w' := hK
      have d6 : a.tmps.getD 12 undef = .slice A' n' c' := hdep ⟨6, .data⟩ (by simp) rfl (by decide)
      have d7 : a.tmps.getD 13 undef = .int .i64 aa := hdep ⟨7, .data⟩ (by simp) rfl (by decide)
      clear hdep hk
      have H2 := Lib.hid (RS.rowE hR HR.out hrb.out)
      clear hR
      go_simp
      refine (entryOf_any H2.out hl aa _ HO.out).mono ?_
      rintro e w2 ⟨rfl, hb2⟩
      exact hK _ _ (by rw [hx.out, hbo.out]) (RS.below hb2)
    · intro a W2 K hR hdep hk hK
      replace hK : ∀ v w', v = x.val → RS rb 57 #[.int .i64 x.mac, .int .i64 x.port, .int .i64 x.seen, .bool x.st] W2 w' → K (a.put (some 15) v) w' := hK
      have d8 : a.tmps.getD 14 undef = .tuple #[x.val, .bool bo] := hdep ⟨8, .data⟩ (by simp) rfl (by decide)
      clear hdep hk hR
      have q8 : a.tmps[14]?.getD undef = .tuple #[x.val, .bool bo] := by simpa [Array.getD_eq_getD_getElem?] using d8
      clear d8
      go_simp
      exact hK _ _ rfl (RS.refl _)
    · intro a W2 K hR hdep hk hK
      replace hK : ∀ v w', v = .bool bo → RS rb 57 #[.int .i64 x.mac, .int .i64 x.port, .int .i64 x.seen, .bool x.st] W2 w' → K (a.put (some 16) v) w' := hK
      have d8 : a.tmps.getD 14 undef = .tuple #[x.val, .bool bo] := hdep ⟨8, .data⟩ (by simp) rfl (by decide)
      clear hdep hk hR
      have q8 : a.tmps[14]?.getD undef = .tuple #[x.val, .bool bo] := by simpa [Array.getD_eq_getD_getElem?] using d8
      clear d8
      go_simp
      exact hK _ _ rfl (RS.refl _)
    · intro a W2 K hR hdep hk hK
      replace hK : ∀ w', Bx w' rb 57 #[.int .i64 x.mac, .int .i64 x.port, .int .i64 x.seen, .bool x.st] → RS rb 57 #[.int .i64 x.mac, .int .i64 x.port, .int .i64 x.seen, .bool x.st] W2 w' → K a w' := hK
      have f4 : a.tmps.getD 4 undef = .pointer (some ⟨rb, 0, none⟩) := hk 4 (by kernel_rfl)
      have d9 : a.tmps.getD 15 undef = x.val := hdep ⟨9, .data⟩ (by simp) rfl (by decide)
      clear hdep hk
      have hX : ∃ v0 v1 v2 v3, Bx W2 rb 57 #[v0, v1, v2, v3] := by
        rcases hR.2 _ X1.out with h | h <;> exact ⟨_, _, _, _, h⟩
      obtain ⟨v0, v1, v2, v3, hX⟩ := hX
      have q9 : a.tmps[15]?.getD undef = x.val := by simpa [Array.getD_eq_getD_getElem?] using d9
      clear d9 hR
      have g0 := hX.c (i := 0) rfl
      have f10 := hX.f 0
      have g1 := hX.c (i := 1) rfl
      have f11 := hX.f 1
      have g2 := hX.c (i := 2) rfl
      have f12 := hX.f 2
      have g3 := hX.c (i := 3) rfl
      have f13 := hX.f 3
      replace hX := Lib.hid hX
      go_simp
      refine hK _ (hX.out.four) ⟨?_, fun u hu => .inr hX.out.four⟩
      exact (((((World.grownBy.refl _ _).trans (setCell_grown' _ _ _ _)).trans (setCell_grown' _ _ _ _)).trans (setCell_grown' _ _ _ _)).trans (setCell_grown' _ _ _ _))
    · intro a W2 K hR hdep hk hK
      replace hK : ∀ v w', v = .bool bo → RS rb 57 #[.int .i64 x.mac, .int .i64 x.port, .int .i64 x.seen, .bool x.st] W2 w' → K (a.put (some 5) v) w' := hK
      have d10 : a.tmps.getD 16 undef = .bool bo := hdep ⟨10, .data⟩ (by simp) rfl (by decide)
      clear hdep hk hR
      go_simp
      exact hK _ _ rfl (RS.refl _)
  · intro a w1 hR hsp hS hk hn hdf
    have h4 : a.tmps.getD 4 undef = .pointer (some ⟨rb, 0, none⟩) := hk 4 (by kernel_rfl)
    have h5 : a.tmps.getD 5 undef = .bool bo := hsp 12 (by decide) (by decide)
    have c0 := hS.c (i := 0) rfl
    have c1 := hS.c (i := 1) rfl
    have c2 := hS.c (i := 2) rfl
    have c3 := hS.c (i := 3) rfl
    have hB : Below w.heap.size w w1 := by rw [hTB.out]; exact B0.trans (hR.bel hlb hz0)
    clear hsp hk hS hR
    show Exit.then _ _ _ _ _
    simp only [Exit.then]
    go_wp2_with fail
    exact bodyPost_ret (v := .tuple #[x.val, .bool bo]) (by simp only [results, Try.results36]; simp [go_sem] at h4 h5 ⊢; simp [h4, h5, c0, c1, c2, c3, go_sem]) hdf ⟨rfl, hB⟩
end Go.Proofs.Ytnghilcjecjljaa.FdbP
