/-
  Contracts of tree's linkAt, ahead.
-/
import Derived.Test.YtplgaenfcaphnaaTreeH
import Derived.Test.YtplgaenfcaphnaaTreeR
import Derived.Test.YtplgaenfcaphnaaLanK
import Derived.BigRegion
import Derived.Deep.LoopGhost
import Derived.Test.YtplgaenfcaphnaaRegEnd
import Derived.Test.YtplgaenfcaphnaaTreeJ
namespace Go.Proofs.Ytplgaenfcaphnaa.LanP
open Go.RowKit Go.Sort Go.Proofs.Ytplgaenfcaphnaa.SliceP Go.Proofs.Ytplgaenfcaphnaa.BoxP
open Go.Proofs.Ytplgaenfcaphnaa.IntP (RowI SlI OwnI)
open Go.Proofs.Ytplgaenfcaphnaa.BoolP (RowB SlB OwnB)
open Go.Proofs.Ytplgaenfcaphnaa.MacP (arr_out)
set_option linter.unusedVariables false
set_option maxRecDepth 100000
theorem port_get {l : L} {b k : Nat} {p : P} {x : Lk} (h1 : l.plans[b]? = some p) (h2 : p.ports[k]? = some x) : prt l b k = x := by
  unfold prt pl; rw [List.getD_eq_getElem?_getD, List.getD_eq_getElem?_getD, h1]; simp [h2]
theorem plan_get {l : L} {b : Nat} (h : b < l.plans.length) : l.plans[b]? = some (pl l b) := by unfold pl; rw [List.getD_eq_getElem?_getD, List.getElem?_eq_getElem h]; rfl
theorem ports_get {l : L} {b k : Nat} (h : k < (pl l b).ports.length) : (pl l b).ports[k]? = some (prt l b k) := by unfold prt; rw [List.getD_eq_getElem?_getD, List.getElem?_eq_getElem h]; rfl
set_option maxHeartbeats 8000000 in
theorem o_linkat {l : L} {A : Option Addr} {c : Nat} {B : Option Addr} {d : Nat} {w : World} (hr : LanR w l A c B d) (hs : Small l) {b k : Nat} (hb : b < l.plans.length) (hk : k < (pl l b).ports.length) :
    Calls Try.prog 64 #[lv l A c B d, .agg #[.int .i64 b, .int .i64 k]] w fun e w' => e = .returned (kv (prt l b k)) ∧ Below w.heap.size w w' := by
  have hbl : (b : Int) < (l.plans.length : Int) := by omega
  have hkl : (k : Int) < ((pl l b).ports.length : Int) := by omega
  have hn8 := hs.plans
  have hp8 := hs.ports (pl l b) (List.mem_of_getElem? (plan_get hb))
  have H := Lib.hid hr.plans
  have hpb := plan_get hb
  have hxk := ports_get hk
  obtain ⟨p, hp⟩ : ∃ p, pl l b = p := ⟨_, rfl⟩
  obtain ⟨x, hx⟩ : ∃ x, prt l b k = x := ⟨_, rfl⟩
  rw [hp] at hkl hp8 hpb hxk
  rw [hx] at hxk ⊢
  replace hp := Lib.hid hp
  replace hx := Lib.hid hx
  clear hr hs hk
  obtain ⟨w0, hw0⟩ : ∃ W, W = w.alloc (.cells #[.int .i64 l.segs, .slice A l.plans.length c, .slice B l.hosts.length d] 25) := ⟨_, rfl⟩
  have hs0 : w0.heap.size = w.heap.size + 1 := by rw [hw0]; simp
  have bb0 : Below w.heap.size w w0 := by rw [hw0]; exact (Below.refl _ _).alloc (Nat.le_refl _) _
  have XX0 : Bx w0 w.heap.size 25 #[.int .i64 l.segs, .slice A l.plans.length c, .slice B l.hosts.length d] := by rw [hw0]; exact Bx.new _ _ _ (by rfl)
  obtain ⟨g1, hg1⟩ : ∃ g, g = w.heap.size + 1 := ⟨_, rfl⟩
  obtain ⟨w1, hw1⟩ : ∃ W, W = w0.alloc (.cells #[.int .i64 b, .int .i64 k] 33) := ⟨_, rfl⟩
  have hs1 : w1.heap.size = g1 + 1 := by rw [hw1]; simp; omega
  have bb1 : Below w0.heap.size w0 w1 := by rw [hw1]; exact (Below.refl _ _).alloc (Nat.le_refl _) _
  have XX1 : Bx w1 g1 33 #[.int .i64 b, .int .i64 k] := by rw [hw1]; exact Bx.new _ _ _ (by omega)
  obtain ⟨g2, hg2⟩ : ∃ g, g = g1 + 1 := ⟨_, rfl⟩
  obtain ⟨w2, hw2⟩ : ∃ W, W = w1.alloc (.cells #[.int .i64 0, .int .i64 0, .bool false] 63) := ⟨_, rfl⟩
  have hs2 : w2.heap.size = g2 + 1 := by rw [hw2]; simp; omega
  have bb2 : Below w1.heap.size w1 w2 := by rw [hw2]; exact (Below.refl _ _).alloc (Nat.le_refl _) _
  have XX2 : Bx w2 g2 63 #[.int .i64 0, .int .i64 0, .bool false] := by rw [hw2]; exact Bx.new _ _ _ (by omega)
  have X0 := Lib.hid (show Bx w2 w.heap.size 25 #[.int .i64 l.segs, .slice A l.plans.length c, .slice B l.hosts.length d] from ((XX0.below bb1).below bb2))
  have X1 := Lib.hid (show Bx w2 g1 33 #[.int .i64 b, .int .i64 k] from (XX1.below bb2))
  have X2 := Lib.hid (show Bx w2 g2 63 #[.int .i64 0, .int .i64 0, .bool false] from XX2)
  have B2 := Lib.hid (show Below w.heap.size w w2 from (bt (bt bb0 bb1) bb2))
  have hgt := Lib.hid (show w.heap.size < g1 ∧ g1 < g2 from by constructor <;> omega)
  have hsz := Lib.hid (show w2.heap.size = g2 + 1 from hs2)
  clear hs0 bb0 XX0 hs1 bb1 XX1 hs2 bb2 XX2
  go_enter Try.func64, Try.ntmps64
  go_upto_region 1 with fail
  rw [← hw0, ← hw1, ← hw2, ← hg1, ← hg2]
  clear hw0 hw1 hw2 hg1 hg2
  obtain ⟨bP, oP, A2, c2, hAA, hbP, p0, p1, hrow⟩ := RowP.at_ (H.out.below B2.out) hpb
  subst hAA
  obtain ⟨bK, oK, hAA, hbK, r0, r1, r2⟩ := Row.kat hrow hxk
  subst hAA
  clear hrow p0
  replace hpb := Lib.hid hpb
  replace hxk := Lib.hid hxk
  have x1 := X0.out.c (i := 1) rfl
  have y0 := X1.out.c (i := 0) rfl
  have y1 := X1.out.c (i := 1) rfl
  have zx := X0.out.lt
  have zy := X1.out.lt
  have v0 := X2.out.c (i := 0) rfl
  have v1 := X2.out.c (i := 1) rfl
  have v2 := X2.out.c (i := 2) rfl
  have fv0 := X2.out.f 0
  have fv1 := X2.out.f 1
  have fv2 := X2.out.f 2
  have zv := X2.out.lt
  go_region
  obtain ⟨wz, hwz⟩ : ∃ W, W = (((w2.setCell ⟨g2, 0, none⟩ (.int .i64 x.seg)).setCell ⟨g2, 1, none⟩ (.int .i64 x.cost)).setCell ⟨g2, 2, none⟩ (.bool x.up)).drew := ⟨_, rfl⟩
  have Yz := Lib.hid (show Bx wz g2 63 #[.int .i64 x.seg, .int .i64 x.cost, .bool x.up] by rw [hwz]; exact (Bx.three X2.out).below (Below.refl _ _).drew)
  have Bz := Lib.hid (show Below w.heap.size w wz by rw [hwz]; exact (below3 B2.out (by have := hgt.out; omega) _ _ _).drew)
  rw [← hwz]
  clear hwz p1 hbP hbK r0 r1 r2 x1 y0 y1 zx zy
  clear v0 v1 v2 fv0 fv1 fv2 zv
  have y0 := Yz.out.c (i := 0) rfl
  have y1 := Yz.out.c (i := 1) rfl
  have y2 := Yz.out.c (i := 2) rfl
  go_wp2_with fail
  refine bodyPost_ret (v := kv x) (by simp [results, Try.results64, go_sem, y0, y1, y2]) rfl ⟨rfl, Bz.out⟩
end Go.Proofs.Ytplgaenfcaphnaa.LanP

/-
  Contracts of lan's Part, On.
-/
namespace Go.Proofs.Ytplgaenfcaphnaa.LanP
open Go.Proofs.Ytplgaenfcaphnaa.MacP (arr_out Wrote wp_region_ends outM)
open Go.RowKit Go.Sort Go.Proofs.Ytplgaenfcaphnaa.SliceP Go.Proofs.Ytplgaenfcaphnaa.BoxP
open Go.Proofs.Ytplgaenfcaphnaa.IntP (RowI SlI OwnI)
open Go.Proofs.Ytplgaenfcaphnaa.BoolP (RowB SlB OwnB)
open Go.Proofs.Ytplgaenfcaphnaa.MacP (classI class_yes class_no ref_right_no ref_right_yes ref_class)
open Go.Proofs.Ytplgaenfcaphnaa.LruP (hasI placeI has_more has_hit place_hit place_none place_geq has_true has_false)
set_option linter.unusedVariables false
set_option maxRecDepth 100000
/-- A row of pairs that is new since w0. -/
def RowN (w0 w : World) (A : Option Addr) (n c : Nat) (l : List (Int × Int)) : Prop := Row ec 2 w A n c l ∧ ∀ a, A = some a → w0.heap.size ≤ a.block
theorem RowN.below {w0 w w' : World} {A : Option Addr} {n c : Nat} {l : List (Int × Int)} (h : RowN w0 w A n c l) (hb : Below w.heap.size w w') : RowN w0 w' A n c l := ⟨h.1.below hb, h.2⟩
set_option maxHeartbeats 16000000 in
theorem o_on_new {l : L} {A : Option Addr} {c : Nat} {B : Option Addr} {d : Nat} {w : World} (hr : LanR w l A c B d) (hs : Small l) {s : Int} (hw : whyI l s = 0) :
    Calls Try.prog 24 #[lv l A c B d, .int .i64 s] w fun e w' => ∃ A1 c1 A2 c2, e = .returned (.tuple #[.slice A1 (hostsOf l.hosts s).length c1, .slice A2 (portsOf l.plans s).length c2, .int .i64 0]) ∧ Row hc 2 w' A1 (hostsOf l.hosts s).length c1 (hostsOf l.hosts s) ∧ RowN w w' A2 (portsOf l.plans s).length c2 (portsOf l.plans s) ∧ Below w.heap.size w w' := by
  have H := Lib.hid hr
  have HS := Lib.hid hs
  obtain ⟨w0, hw0, X0, R0, B0⟩ := new3 w hr
  have hR := Lib.hid (o_check R0 hs s hw)
  replace hw := Lib.hid hw
  replace X0 := Lib.hid X0
  replace B0 := Lib.hid B0
  clear hr hs R0
  go_enter Try.func24, Try.ntmps24
  go_upto_region 1 with fail
  rw [← hw0]
  clear hw0
  have x0 := X0.out.c (i := 0) rfl
  have x1 := X0.out.c (i := 1) rfl
  have x2 := X0.out.c (i := 2) rfl
  have zz := X0.out.lt
  go_wp2_with fail
  go_at_call 38
  (with_reducible refine hR.out.mono ?_)
  rintro e w1 ⟨rfl, hb1⟩
  have B1 := Lib.hid (bt B0.out hb1)
  have X1 := Lib.hid (X0.out.below hb1)
  have H1 := Lib.hid (H.out.below B1.out)
  have hH := Lib.hid (fun W (hW : Below w1.heap.size w1 W) => o_hostson (H1.out.hosts.below hW) (by have := HS.out.hosts; omega) s)
  have hP := Lib.hid (fun W (hW : Below w1.heap.size w1 W) => o_portson (H1.out.plans.below hW) (by have := HS.out.plans; omega) HS.out.ports s)
  clear hb1 x0 x1 x2 zz hR
  have x0 := X1.out.c (i := 0) rfl
  have x1 := X1.out.c (i := 1) rfl
  have x2 := X1.out.c (i := 2) rfl
  have zz := X1.out.lt
  go_upto_region 4 with fail
  refine wp_region_ends (by kernel_rfl) (fun ix => match ix with | 0 => 14 | 1 => 15 | 2 => 16 | 3 => 17 | 4 => 18 | 5 => 19 | 6 => 20 | 7 => 21 | _ => 0) 8 (by kernel_rfl) (fun i v W => match i with | 0 => v = .pointer (some ⟨w.heap.size, 2, none⟩) | 1 => v = .slice B l.hosts.length d | 2 => v = .int .i64 s | 3 => ∃ A' c', v = .slice A' (hostsOf l.hosts s).length c' ∧ Row hc 2 W A' (hostsOf l.hosts s).length c' (hostsOf l.hosts s) | 4 => v = .pointer (some ⟨w.heap.size, 1, none⟩) | 5 => v = .slice A l.plans.length c | 6 => v = .int .i64 s | 7 => ∃ A' c', v = .slice A' (portsOf l.plans s).length c' ∧ RowN w W A' (portsOf l.plans s).length c' (portsOf l.plans s) | _ => True) (fun i v W W' h hb => by
      match i with
      | 0 => exact h
      | 1 => exact h
      | 2 => exact h
      | 3 => exact (by obtain ⟨A', c', h1, h2⟩ := h; exact ⟨A', c', h1, h2.below hb⟩)
      | 4 => exact h
      | 5 => exact h
      | 6 => exact h
      | 7 => exact (by obtain ⟨A', c', h1, h2⟩ := h; exact ⟨A', c', h1, h2.below hb⟩)
      | n + 8 => exact trivial) ?_ ?_
  refine ⟨?_, ?_, ?_, ?_, ?_, ?_, ?_, ?_, trivial⟩
  · as_aux_lemma =>
      intro a W2 K hb hdep hk hK
      replace hK : ∀ v w', (v = .pointer (some ⟨w.heap.size, 2, none⟩)) → Below W2.heap.size W2 w' → K (a.put (some 14) v) w' := hK
      have d2 : a.tmps.getD 2 undef = .pointer (some ⟨w.heap.size, 0, none⟩) := hk 2 (by kernel_rfl)
      clear hdep hk hb
      go_simp
      exact hK _ _ rfl (Below.refl _ _)
  · as_aux_lemma =>
      intro a W2 K hb hdep hk hK
      replace hK : ∀ v w', (v = .slice B l.hosts.length d) → Below W2.heap.size W2 w' → K (a.put (some 15) v) w' := hK
      have d14 : a.tmps.getD 14 undef = .pointer (some ⟨w.heap.size, 2, none⟩) := hdep ⟨0, .data⟩ (by simp) rfl
      have t2 := (hb.cell (p := ⟨w.heap.size, 2, none⟩) zz).trans x2
      clear hdep hk hb
      go_simp
      exact hK _ _ rfl (Below.refl _ _)
  · as_aux_lemma =>
      intro a W2 K hb hdep hk hK
      replace hK : ∀ v w', (v = .int .i64 s) → Below W2.heap.size W2 w' → K (a.put (some 16) v) w' := hK
      have d1 : a.tmps.getD 1 undef = .int .i64 s := hk 1 (by kernel_rfl)
      clear hdep hk hb
      go_simp
      exact hK _ _ rfl (Below.refl _ _)
  · as_aux_lemma =>
      intro a W2 K hb hdep hk hK
      replace hK : ∀ v w', (∃ A' c', v = .slice A' (hostsOf l.hosts s).length c' ∧ Row hc 2 w' A' (hostsOf l.hosts s).length c' (hostsOf l.hosts s)) → Below W2.heap.size W2 w' → K (a.put (some 17) v) w' := hK
      have d15 : a.tmps.getD 15 undef = .slice B l.hosts.length d := hdep ⟨1, .data⟩ (by simp) rfl
      have d16 : a.tmps.getD 16 undef = .int .i64 s := hdep ⟨2, .data⟩ (by simp) rfl
      have hcall := hH.out W2 hb
      clear hdep hk hb
      have q15 : a.tmps[15]?.getD undef = .slice B l.hosts.length d := by simpa [Array.getD_eq_getD_getElem?] using d15
      clear d15
      have q16 : a.tmps[16]?.getD undef = .int .i64 s := by simpa [Array.getD_eq_getD_getElem?] using d16
      clear d16
      go_simp
      refine hcall.mono ?_
      rintro e w9 ⟨A9, c9, rfl, o9, hb9⟩
      exact hK _ _ ⟨A9, c9, rfl, Row.own o9 (by decide)⟩ hb9
  · as_aux_lemma =>
      intro a W2 K hb hdep hk hK
      replace hK : ∀ v w', (v = .pointer (some ⟨w.heap.size, 1, none⟩)) → Below W2.heap.size W2 w' → K (a.put (some 18) v) w' := hK
      have d2 : a.tmps.getD 2 undef = .pointer (some ⟨w.heap.size, 0, none⟩) := hk 2 (by kernel_rfl)
      clear hdep hk hb
      go_simp
      exact hK _ _ rfl (Below.refl _ _)
  · as_aux_lemma =>
      intro a W2 K hb hdep hk hK
      replace hK : ∀ v w', (v = .slice A l.plans.length c) → Below W2.heap.size W2 w' → K (a.put (some 19) v) w' := hK
      have d18 : a.tmps.getD 18 undef = .pointer (some ⟨w.heap.size, 1, none⟩) := hdep ⟨4, .data⟩ (by simp) rfl
      have t1 := (hb.cell (p := ⟨w.heap.size, 1, none⟩) zz).trans x1
      clear hdep hk hb
      go_simp
      exact hK _ _ rfl (Below.refl _ _)
  · as_aux_lemma =>
      intro a W2 K hb hdep hk hK
      replace hK : ∀ v w', (v = .int .i64 s) → Below W2.heap.size W2 w' → K (a.put (some 20) v) w' := hK
      have d1 : a.tmps.getD 1 undef = .int .i64 s := hk 1 (by kernel_rfl)
      clear hdep hk hb
      go_simp
      exact hK _ _ rfl (Below.refl _ _)
  · as_aux_lemma =>
      intro a W2 K hb hdep hk hK
      replace hK : ∀ v w', (∃ A' c', v = .slice A' (portsOf l.plans s).length c' ∧ RowN w w' A' (portsOf l.plans s).length c' (portsOf l.plans s)) → Below W2.heap.size W2 w' → K (a.put (some 21) v) w' := hK
      have d19 : a.tmps.getD 19 undef = .slice A l.plans.length c := hdep ⟨5, .data⟩ (by simp) rfl
      have d20 : a.tmps.getD 20 undef = .int .i64 s := hdep ⟨6, .data⟩ (by simp) rfl
      have hcall := hP.out W2 hb
      have hsz := Lib.hid (Nat.le_trans B1.out.size hb.size)
      clear hdep hk hb
      have q19 : a.tmps[19]?.getD undef = .slice A l.plans.length c := by simpa [Array.getD_eq_getD_getElem?] using d19
      clear d19
      have q20 : a.tmps[20]?.getD undef = .int .i64 s := by simpa [Array.getD_eq_getD_getElem?] using d20
      clear d20
      go_simp
      refine hcall.mono ?_
      rintro e w9 ⟨A9, c9, rfl, o9, hb9⟩
      exact hK _ _ ⟨A9, c9, rfl, Row.own o9 (by decide), fun ad hd => Nat.le_trans hsz.out (own_far o9 ad hd).1⟩ hb9
  intro a W3 hb3 hsp hk hn hdf
  obtain ⟨AH, cH, h9, k9⟩ := hsp 3 (by decide)
  obtain ⟨AP, cP, h8, k8⟩ := hsp 7 (by decide)
  have s2 : a.tmps.getD 2 undef = .pointer (some ⟨w.heap.size, 0, none⟩) := hk 2 (by kernel_rfl)
  have s1 : a.tmps.getD 1 undef = .int .i64 s := hk 1 (by kernel_rfl)
  have s14 : a.tmps.getD 14 undef = .pointer (some ⟨w.heap.size, 2, none⟩) := hsp 0 (by decide)
  have s15 : a.tmps.getD 15 undef = .slice B l.hosts.length d := hsp 1 (by decide)
  have s16 : a.tmps.getD 16 undef = .int .i64 s := hsp 2 (by decide)
  have s18 : a.tmps.getD 18 undef = .pointer (some ⟨w.heap.size, 1, none⟩) := hsp 4 (by decide)
  have s19 : a.tmps.getD 19 undef = .slice A l.plans.length c := hsp 5 (by decide)
  have s20 : a.tmps.getD 20 undef = .int .i64 s := hsp 6 (by decide)
  have s17 : a.tmps.getD 17 undef = .slice AH (hostsOf l.hosts s).length cH := h9
  have s21 : a.tmps.getD 21 undef = .slice AP (portsOf l.plans s).length cP := h8
  clear hk hsp h9 h8
  obtain ⟨tm, df⟩ := a
  have e := arr_out tm 22 hn
  replace e : tm = #[tm.getD 0 undef, tm.getD 1 undef, tm.getD 2 undef, tm.getD 3 undef, tm.getD 4 undef, tm.getD 5 undef, tm.getD 6 undef, tm.getD 7 undef, tm.getD 8 undef, tm.getD 9 undef, tm.getD 10 undef, tm.getD 11 undef, tm.getD 12 undef, tm.getD 13 undef, tm.getD 14 undef, tm.getD 15 undef, tm.getD 16 undef, tm.getD 17 undef, tm.getD 18 undef, tm.getD 19 undef, tm.getD 20 undef, tm.getD 21 undef] := e
  simp only at s2 s1 s14 s15 s16 s18 s19 s20 s17 s21 hdf
  rw [s2, s1, s14, s15, s16, s18, s19, s20, s17, s21] at e
  subst hdf
  clear s2 s1 s14 s15 s16 s18 s19 s20 s17 s21 hn
  generalize tm.getD 0 undef = u0 at e
  generalize tm.getD 3 undef = u3 at e
  generalize tm.getD 4 undef = u4 at e
  generalize tm.getD 5 undef = u5 at e
  generalize tm.getD 6 undef = u6 at e
  generalize tm.getD 7 undef = u7 at e
  generalize tm.getD 8 undef = u8 at e
  generalize tm.getD 9 undef = u9 at e
  generalize tm.getD 10 undef = u10 at e
  generalize tm.getD 11 undef = u11 at e
  generalize tm.getD 12 undef = u12 at e
  generalize tm.getD 13 undef = u13 at e
  subst e
  simp only [List.drop_succ_cons, List.drop_zero]
  have Bf := Lib.hid (bt B1.out hb3)
  have r9 := Lib.hid k9
  have r8 := Lib.hid k8
  clear k9 k8 hb3
  go_wp2_with fail
  refine bodyPost_ret (v := .tuple #[.slice AH (hostsOf l.hosts s).length cH, .slice AP (portsOf l.plans s).length cP, .int .i64 0]) (by simp [results, Try.results24, go_sem]) rfl ⟨AH, cH, AP, cP, rfl, r9.out, r8.out, Bf.out⟩
end Go.Proofs.Ytplgaenfcaphnaa.LanP

/-
  Contract of tree's ahead.
-/
namespace Go.Proofs.Ytplgaenfcaphnaa.LanP
open Go.RowKit Go.Sort Go.Proofs.Ytplgaenfcaphnaa.SliceP Go.Proofs.Ytplgaenfcaphnaa.BoxP
open Go.Proofs.Ytplgaenfcaphnaa.IntP (RowI SlI OwnI)
open Go.Proofs.Ytplgaenfcaphnaa.BoolP (RowB SlB OwnB)
open Go.Proofs.Ytplgaenfcaphnaa.MacP (arr_out)
set_option linter.unusedVariables false
set_option maxRecDepth 100000
theorem ahead_succ {l : L} {b : Nat} {k : Bst} {i : Nat} {x : Lk} (h : (pl l b).ports[i]? = some x) : ((pl l b).ports.take (i + 1)).flatMap (aheadP l k) = ((pl l b).ports.take i).flatMap (aheadP l k) ++ aheadP l k x := fm_succ _ h
theorem field_cost (x : Lk) (w : World) : (Instr.field 63 (kv x) 1).run Try.prog w = .ok (.int .i64 x.cost) w := by kernel_rfl
def onw (l : L) (k : Bst) (q : Nat × Nat) : Wy := Wy.on q.1 k.1 (k.2 + (prt l q.1 q.2).cost)
theorem take_map_succ {α β : Type} (f : α → β) {l : List α} {j : Nat} {x : α} (h : l[j]? = some x) : (l.take (j + 1)).map f = (l.take j).map f ++ [f x] := by rw [List.take_add_one, h, List.map_append]; rfl
set_option maxHeartbeats 16000000 in
theorem o_ahead {l : L} {A : Option Addr} {c : Nat} {B : Option Addr} {d : Nat} {w : World} (hr : LanR w l A c B d) (hs : Small l) (ho : l.ok = true) {x : Wy} (hx : x.fr < l.plans.length) (hk : 0 ≤ x.key.2 ∧ x.key.2 ≤ 1000000) :
    Calls Try.prog 45 #[lv l A c B d, x.v] w (Ret wc 92 1 w (aheadL l x.fr x.key)) := by
  have HL := Lib.hid hr
  have H := Lib.hid hr.plans
  have HS := Lib.hid hs
  have HO := Lib.hid ho
  have HK := Lib.hid hk
  have hn8 := hs.plans
  obtain ⟨T, V, hxv⟩ := x.iface
  obtain ⟨fw, ow1, ow2, hmw, hcw, hCw⟩ := o_worth hxv
  obtain ⟨ff, hmf, hcf, hCf⟩ := o_from hxv
  have hpb := plan_get hx
  obtain ⟨b, hb9⟩ : ∃ b, x.fr = b := ⟨_, rfl⟩
  obtain ⟨⟨k1, k2⟩, hk9⟩ : ∃ k, x.key = k := ⟨_, rfl⟩
  rw [hb9] at hCf hpb hx ⊢
  rw [hk9] at hCw HK ⊢
  rw [hxv]
  have hbl : (b : Int) < (l.plans.length : Int) := by omega
  obtain ⟨p, hp⟩ : ∃ p, pl l b = p := ⟨_, rfl⟩
  rw [hp] at hpb
  replace hCw := Lib.hid hCw
  replace hCf := Lib.hid hCf
  replace hb9 := Lib.hid hb9
  replace hk9 := Lib.hid hk9
  replace hxv := Lib.hid hxv
  replace hp := Lib.hid hp
  have hpm := Lib.hid (show p ∈ l.plans from List.mem_of_getElem? hpb)
  have hpl := HS.out.ports p hpm.out
  obtain ⟨w0, hw0, X0, R0, B0⟩ := new3 w hr
  replace X0 := Lib.hid X0
  replace B0 := Lib.hid B0
  have hlt0 := Lib.hid (show w.heap.size < w0.heap.size from X0.out.lt)
  clear hr hs R0 ho hk
  go_enter Try.func45, Try.ntmps45
  go_upto_region 2 with fail
  rw [← hw0]
  clear hw0
  go_upto_region 3 with ((with_reducible refine (hCw.out _).mono ?_); rintro e w1 ⟨rfl, hw1⟩; replace hw1 := Lib.hid hw1)
  have b1 : Below w0.heap.size w0 w1 := by rw [hw1.out]; exact ((Below.refl _ _).alloc (Nat.le_refl _) _).alloc (by simp) _
  clear hw1
  obtain ⟨gW, hgW⟩ : ∃ g, g = w1.heap.size := ⟨_, rfl⟩
  obtain ⟨w2, hw2⟩ : ∃ W, W = w1.alloc (.cells #[.int .i64 k1, .int .i64 k2] 33) := ⟨_, rfl⟩
  have bb2 : Below w1.heap.size w1 w2 := by rw [hw2]; exact (Below.refl _ _).alloc (Nat.le_refl _) _
  have Y2 := Lib.hid (show Bx w2 gW 33 #[.int .i64 k1, .int .i64 k2] by rw [hw2, hgW]; exact Bx.new _ _ _ rfl)
  have X2 := Lib.hid ((X0.out.below b1).below bb2)
  have B2 := Lib.hid (bt (bt B0.out b1) bb2)
  have hgw := Lib.hid (show w.heap.size < gW ∧ gW < w2.heap.size from ⟨by rw [hgW]; exact Nat.lt_of_lt_of_le hlt0.out b1.size, Y2.out.lt⟩)
  rw [← hw2, ← hgW]
  clear hw2 hgW b1 bb2
  obtain ⟨bP, oP, A2, c2, hAA, hbP, p0, p1, hrow⟩ := RowP.at_ (H.out.below B2.out) hpb
  subst hAA
  have HR := Lib.hid hrow
  have hbP2 := Lib.hid hbP
  have p12 := Lib.hid p1
  clear hrow p0 p1 hbP
  replace hpb := Lib.hid hpb
  refine Go.Proofs.Ytplgaenfcaphnaa.MacP.wp_region_box (by kernel_rfl) (fun ix => match ix with | 0 => 17 | 1 => 18 | 2 => 19 | 3 => 20 | 4 => 21 | 5 => 22 | 6 => 23 | 7 => 24 | 8 => 25 | _ => 0) (fun ix => match ix with  | _ => none) (fun ix => match ix with  | _ => none) (fun _ => 0) (fun _ => 0) 0 (by kernel_rfl) (fun _ => 3) (fun _ => #[]) (fun _ => #[]) (fun ix v => match ix with | 0 => v = .pointer (some ⟨w.heap.size, 1, none⟩) | 1 => v = .slice (some ⟨bP, oP, none⟩) l.plans.length c | 2 => v = .iface T V | 3 => v = .int .i64 b | 4 => v = .pointer (some ⟨bP, oP + b * 2, none⟩) | 5 => v = .pointer (some ⟨bP, oP + b * 2 + 1, none⟩) | 6 => v = .slice A2 p.ports.length c2 | 7 => v = .int .i64 p.ports.length | 8 => v = .int .i64 0 | _ => True) ?_ ?_
  · refine ⟨?_, ?_, ?_, ?_, ?_, ?_, ?_, ?_, ?_, trivial⟩
    · as_aux_lemma =>
        intro a W2 K hb hdep hk hK
        replace hK : ∀ v w', v = .pointer (some ⟨w.heap.size, 1, none⟩) → Below W2.heap.size W2 w' → K (a.put (some 17) v) w' := hK
        have d2 : a.tmps.getD 2 undef = .pointer (some ⟨w.heap.size, 0, none⟩) := hk 2 (by kernel_rfl)
        have q2 : a.tmps[2]?.getD undef = .pointer (some ⟨w.heap.size, 0, none⟩) := by simpa [Array.getD_eq_getD_getElem?] using d2
        clear d2
        clear hb hdep hk
        go_simp
        exact hK _ _ rfl (Below.refl _ _)
    · as_aux_lemma =>
        intro a W2 K hb hdep hk hK
        replace hK : ∀ v w', v = .slice (some ⟨bP, oP, none⟩) l.plans.length c → Below W2.heap.size W2 w' → K (a.put (some 18) v) w' := hK
        have d17 : a.tmps.getD 17 undef = .pointer (some ⟨w.heap.size, 1, none⟩) := hdep ⟨0, .data⟩ (by simp) rfl rfl rfl
        have q17 : a.tmps[17]?.getD undef = .pointer (some ⟨w.heap.size, 1, none⟩) := by simpa [Array.getD_eq_getD_getElem?] using d17
        clear d17
        have x1 := (X2.out.below hb).c (i := 1) rfl
        clear hb hdep hk
        go_simp
        exact hK _ _ rfl (Below.refl _ _)
    · as_aux_lemma =>
        intro a W2 K hb hdep hk hK
        replace hK : ∀ v w', v = .iface T V → Below W2.heap.size W2 w' → K (a.put (some 19) v) w' := hK
        have d1 : a.tmps.getD 1 undef = .iface T V := hk 1 (by kernel_rfl)
        have q1 : a.tmps[1]?.getD undef = .iface T V := by simpa [Array.getD_eq_getD_getElem?] using d1
        clear d1
        clear hb hdep hk
        go_simp
        exact hK _ _ rfl (Below.refl _ _)
    · as_aux_lemma =>
        intro a W2 K hb hdep hk hK
        replace hK : ∀ v w', v = .int .i64 b → Below W2.heap.size W2 w' → K (a.put (some 20) v) w' := hK
        have d19 : a.tmps.getD 19 undef = .iface T V := hdep ⟨2, .data⟩ (by simp) rfl rfl rfl
        have q19 : a.tmps[19]?.getD undef = .iface T V := by simpa [Array.getD_eq_getD_getElem?] using d19
        clear d19
        clear hb hdep hk
        go_simp
        refine (hCf.out _).mono ?_
        rintro e w9 ⟨rfl, hb9'⟩
        exact hK _ _ rfl hb9'
    · as_aux_lemma =>
        intro a W2 K hb hdep hk hK
        replace hK : ∀ v w', v = .pointer (some ⟨bP, oP + b * 2, none⟩) → Below W2.heap.size W2 w' → K (a.put (some 21) v) w' := hK
        have d18 : a.tmps.getD 18 undef = .slice (some ⟨bP, oP, none⟩) l.plans.length c := hdep ⟨1, .data⟩ (by simp) rfl rfl rfl
        have d20 : a.tmps.getD 20 undef = .int .i64 b := hdep ⟨3, .data⟩ (by simp) rfl rfl rfl
        have q18 : a.tmps[18]?.getD undef = .slice (some ⟨bP, oP, none⟩) l.plans.length c := by simpa [Array.getD_eq_getD_getElem?] using d18
        clear d18
        have q20 : a.tmps[20]?.getD undef = .int .i64 b := by simpa [Array.getD_eq_getD_getElem?] using d20
        clear d20
        clear hb hdep hk
        go_simp
        exact hK _ _ rfl (Below.refl _ _)
    · as_aux_lemma =>
        intro a W2 K hb hdep hk hK
        replace hK : ∀ v w', v = .pointer (some ⟨bP, oP + b * 2 + 1, none⟩) → Below W2.heap.size W2 w' → K (a.put (some 22) v) w' := hK
        have d21 : a.tmps.getD 21 undef = .pointer (some ⟨bP, oP + b * 2, none⟩) := hdep ⟨4, .data⟩ (by simp) rfl rfl rfl
        have q21 : a.tmps[21]?.getD undef = .pointer (some ⟨bP, oP + b * 2, none⟩) := by simpa [Array.getD_eq_getD_getElem?] using d21
        clear d21
        clear hb hdep hk
        go_simp
        exact hK _ _ rfl (Below.refl _ _)
    · as_aux_lemma =>
        intro a W2 K hb hdep hk hK
        replace hK : ∀ v w', v = .slice A2 p.ports.length c2 → Below W2.heap.size W2 w' → K (a.put (some 23) v) w' := hK
        have d22 : a.tmps.getD 22 undef = .pointer (some ⟨bP, oP + b * 2 + 1, none⟩) := hdep ⟨5, .data⟩ (by simp) rfl rfl rfl
        have q22 : a.tmps[22]?.getD undef = .pointer (some ⟨bP, oP + b * 2 + 1, none⟩) := by simpa [Array.getD_eq_getD_getElem?] using d22
        clear d22
        have p1 := (hb.cell (p := ⟨bP, _, none⟩) hbP2.out).trans p12.out
        clear hb hdep hk
        go_simp
        exact hK _ _ rfl (Below.refl _ _)
    · as_aux_lemma =>
        intro a W2 K hb hdep hk hK
        replace hK : ∀ v w', v = .int .i64 p.ports.length → Below W2.heap.size W2 w' → K (a.put (some 24) v) w' := hK
        have d23 : a.tmps.getD 23 undef = .slice A2 p.ports.length c2 := hdep ⟨6, .data⟩ (by simp) rfl rfl rfl
        have q23 : a.tmps[23]?.getD undef = .slice A2 p.ports.length c2 := by simpa [Array.getD_eq_getD_getElem?] using d23
        clear d23
        clear hb hdep hk
        go_simp
        exact hK _ _ rfl (Below.refl _ _)
    · as_aux_lemma =>
        intro a W2 K hb hdep hk hK
        replace hK : ∀ v w', v = .int .i64 0 → Below W2.heap.size W2 w' → K (a.put (some 25) v) w' := hK
        clear hb hdep hk
        go_simp
        exact hK _ _ rfl (Below.refl _ _)
  intro a wbx hsp hbxs hne hk hn hdf hbx
  clear hne hbxs
  have s0 : a.tmps.getD 0 undef = lv l (some ⟨bP, oP, none⟩) c B d := hk 0 (by kernel_rfl)
  have s1 : a.tmps.getD 1 undef = .iface T V := hk 1 (by kernel_rfl)
  have s2 : a.tmps.getD 2 undef = .pointer (some ⟨w.heap.size, 0, none⟩) := hk 2 (by kernel_rfl)
  have s4 : a.tmps.getD 4 undef = .slice none 0 0 := hk 4 (by kernel_rfl)
  have s5 : a.tmps.getD 5 undef = .slice none 0 0 := hk 5 (by kernel_rfl)
  have s6 : a.tmps.getD 6 undef = .pointer (some ⟨gW, 0, none⟩) := hk 6 (by kernel_rfl)
  have s17 : a.tmps.getD 17 undef = .pointer (some ⟨w.heap.size, 1, none⟩) := hsp 0 (by decide) rfl rfl
  have s18 : a.tmps.getD 18 undef = .slice (some ⟨bP, oP, none⟩) l.plans.length c := hsp 1 (by decide) rfl rfl
  have s19 : a.tmps.getD 19 undef = .iface T V := hsp 2 (by decide) rfl rfl
  have s20 : a.tmps.getD 20 undef = .int .i64 b := hsp 3 (by decide) rfl rfl
  have s21 : a.tmps.getD 21 undef = .pointer (some ⟨bP, oP + b * 2, none⟩) := hsp 4 (by decide) rfl rfl
  have s22 : a.tmps.getD 22 undef = .pointer (some ⟨bP, oP + b * 2 + 1, none⟩) := hsp 5 (by decide) rfl rfl
  have s23 : a.tmps.getD 23 undef = .slice A2 p.ports.length c2 := hsp 6 (by decide) rfl rfl
  have s24 : a.tmps.getD 24 undef = .int .i64 p.ports.length := hsp 7 (by decide) rfl rfl
  have s25 : a.tmps.getD 25 undef = .int .i64 0 := hsp 8 (by decide) rfl rfl
  clear hk hsp
  obtain ⟨tm, df⟩ := a
  have e := arr_out tm 66 hn
  replace e : tm = #[tm.getD 0 undef, tm.getD 1 undef, tm.getD 2 undef, tm.getD 3 undef, tm.getD 4 undef, tm.getD 5 undef, tm.getD 6 undef, tm.getD 7 undef, tm.getD 8 undef, tm.getD 9 undef, tm.getD 10 undef, tm.getD 11 undef, tm.getD 12 undef, tm.getD 13 undef, tm.getD 14 undef, tm.getD 15 undef, tm.getD 16 undef, tm.getD 17 undef, tm.getD 18 undef, tm.getD 19 undef, tm.getD 20 undef, tm.getD 21 undef, tm.getD 22 undef, tm.getD 23 undef, tm.getD 24 undef, tm.getD 25 undef, tm.getD 26 undef, tm.getD 27 undef, tm.getD 28 undef, tm.getD 29 undef, tm.getD 30 undef, tm.getD 31 undef, tm.getD 32 undef, tm.getD 33 undef, tm.getD 34 undef, tm.getD 35 undef, tm.getD 36 undef, tm.getD 37 undef, tm.getD 38 undef, tm.getD 39 undef, tm.getD 40 undef, tm.getD 41 undef, tm.getD 42 undef, tm.getD 43 undef, tm.getD 44 undef, tm.getD 45 undef, tm.getD 46 undef, tm.getD 47 undef, tm.getD 48 undef, tm.getD 49 undef, tm.getD 50 undef, tm.getD 51 undef, tm.getD 52 undef, tm.getD 53 undef, tm.getD 54 undef, tm.getD 55 undef, tm.getD 56 undef, tm.getD 57 undef, tm.getD 58 undef, tm.getD 59 undef, tm.getD 60 undef, tm.getD 61 undef, tm.getD 62 undef, tm.getD 63 undef, tm.getD 64 undef, tm.getD 65 undef] := e
  simp only at s0 s1 s2 s4 s5 s6 s17 s18 s19 s20 s21 s22 s23 s24 s25 hdf
  rw [s0, s1, s2, s4, s5, s6, s17, s18, s19, s20, s21, s22, s23, s24, s25] at e
  subst hdf
  clear s0 s1 s2 s4 s5 s6 s17 s18 s19 s20 s21 s22 s23 s24 s25 hn
  generalize tm.getD 3 undef = u3 at e
  generalize tm.getD 7 undef = u7 at e
  generalize tm.getD 8 undef = u8 at e
  generalize tm.getD 9 undef = u9 at e
  generalize tm.getD 10 undef = u10 at e
  generalize tm.getD 11 undef = u11 at e
  generalize tm.getD 12 undef = u12 at e
  generalize tm.getD 13 undef = u13 at e
  generalize tm.getD 14 undef = u14 at e
  generalize tm.getD 15 undef = u15 at e
  generalize tm.getD 16 undef = u16 at e
  generalize tm.getD 26 undef = u26 at e
  generalize tm.getD 27 undef = u27 at e
  generalize tm.getD 28 undef = u28 at e
  generalize tm.getD 29 undef = u29 at e
  generalize tm.getD 30 undef = u30 at e
  generalize tm.getD 31 undef = u31 at e
  generalize tm.getD 32 undef = u32 at e
  generalize tm.getD 33 undef = u33 at e
  generalize tm.getD 34 undef = u34 at e
  generalize tm.getD 35 undef = u35 at e
  generalize tm.getD 36 undef = u36 at e
  generalize tm.getD 37 undef = u37 at e
  generalize tm.getD 38 undef = u38 at e
  generalize tm.getD 39 undef = u39 at e
  generalize tm.getD 40 undef = u40 at e
  generalize tm.getD 41 undef = u41 at e
  generalize tm.getD 42 undef = u42 at e
  generalize tm.getD 43 undef = u43 at e
  generalize tm.getD 44 undef = u44 at e
  generalize tm.getD 45 undef = u45 at e
  generalize tm.getD 46 undef = u46 at e
  generalize tm.getD 47 undef = u47 at e
  generalize tm.getD 48 undef = u48 at e
  generalize tm.getD 49 undef = u49 at e
  generalize tm.getD 50 undef = u50 at e
  generalize tm.getD 51 undef = u51 at e
  generalize tm.getD 52 undef = u52 at e
  generalize tm.getD 53 undef = u53 at e
  generalize tm.getD 54 undef = u54 at e
  generalize tm.getD 55 undef = u55 at e
  generalize tm.getD 56 undef = u56 at e
  generalize tm.getD 57 undef = u57 at e
  generalize tm.getD 58 undef = u58 at e
  generalize tm.getD 59 undef = u59 at e
  generalize tm.getD 60 undef = u60 at e
  generalize tm.getD 61 undef = u61 at e
  generalize tm.getD 62 undef = u62 at e
  generalize tm.getD 63 undef = u63 at e
  generalize tm.getD 64 undef = u64 at e
  generalize tm.getD 65 undef = u65 at e
  subst e
  simp only [Exit.then]
  have X3 := Lib.hid (X2.out.below hbx)
  have Y3 := Lib.hid (Y2.out.below hbx)
  have HR3 := Lib.hid (HR.out.below hbx)
  have B3 := Lib.hid (bt B2.out hbx)
  have hbz := Lib.hid (Nat.le_trans (Nat.le_of_lt hgw.out.2) hbx.size)
  obtain ⟨bz, hbz0⟩ : ∃ b, b = wbx.heap.size := ⟨_, rfl⟩
  have hg2 := Lib.hid (show w.heap.size < bz ∧ gW < bz by rw [hbz0]; have := hgw.out; have := hbx.size; omega)
  replace hbz0 := Lib.hid hbz0
  clear X2 Y2 HR B2 hbx p12 hbP2
  have hm8 := hpl
  go_wp2_with fail
  go_loopw [5, 25] (fun v i wr => ∃ k : Nat, k ≤ p.ports.length ∧ i = .int .i64 k ∧ Own wr bz 92 1 v (((p.ports.take k).flatMap (aheadP l (k1, k2))).map wc) ∧ bz ≤ wr.heap.size ∧ Bx wr w.heap.size 25 (lc l (some ⟨bP, oP, none⟩) c B d) ∧ Bx wr gW 33 #[.int .i64 k1, .int .i64 k2] ∧ Below wbx.heap.size wbx wr) (fun _ i _ => p.ports.length - (intOf i).toNat)
  case atStart => exact ⟨0, by omega, rfl, Own.nil _ _ _ _, by rw [hbz0.out]; exact Nat.le_refl _, X3.out, Y3.out, Below.refl _ _⟩
  case round =>
    obtain ⟨k, hk, rfl, hown, hsz, hX, hY, hb⟩ := hrel
    obtain ⟨A3, c3, hv3⟩ := own_form hown
    subst hv3
    obtain ⟨wo, hwo⟩ : ∃ W, W = wr := ⟨_, rfl⟩
    subst hwo
    have hlenL := Lib.hid (by rw [← hp.out]; exact ahead_len HS.out.plans HS.out.ports b (k1, k2) k : ((p.ports.take k).flatMap (aheadP l (k1, k2))).length ≤ 800)
    by_cases hkn : k < p.ports.length
    · have hkl : (k : Int) < (p.ports.length : Int) := by omega
      obtain ⟨y, hy⟩ : ∃ y, p.ports[k]? = some y := ⟨_, List.getElem?_eq_getElem hkn⟩
      obtain ⟨bS8, oS8, hAS8, hbS8, q8_0, q8_1, q8_2⟩ := Row.kat (HR3.out.below hb) hy
      subst hAS8
      obtain ⟨w8, hw8⟩ : ∃ W, W = wo.alloc (.cells #[.int .i64 y.seg, .int .i64 y.cost, .bool y.up] 63) := ⟨_, rfl⟩
      have bb8 : Below wo.heap.size wo w8 := by rw [hw8]; exact (Below.refl _ _).alloc (Nat.le_refl _) _
      have b8 := Lib.hid (bt hb bb8)
      have X8 := Lib.hid (show Bx w8 wo.heap.size 63 #[.int .i64 y.seg, .int .i64 y.cost, .bool y.up] by rw [hw8]; exact Bx.new _ _ _ rfl)
      have hs1 := Lib.hid (show (p.ports.take (k + 1)).flatMap (aheadP l (k1, k2)) = (p.ports.take k).flatMap (aheadP l (k1, k2)) ++ aheadP l (k1, k2) y by have h9 := ahead_succ (l := l) (b := b) (k := (k1, k2)) (i := k) (x := y) (by rw [hp.out]; exact hy); rw [hp.out] at h9; exact h9)
      have hyo := Lib.hid (ok_lk HO.out p hpm.out y (List.mem_of_getElem? hy))
      obtain ⟨K, hK⟩ : ∃ K, (p.ports.take k).flatMap (aheadP l (k1, k2)) = K := ⟨_, rfl⟩
      rw [hK] at hown hs1 hlenL ⊢
      replace hK := Lib.hid hK
      have own8 := Lib.hid (hown.below bb8)
      have X8l := Lib.hid (hX.below bb8)
      have Y8l := Lib.hid (hY.below bb8)
      have hsz8 := Lib.hid (Nat.le_trans hsz bb8.size)
      clear hown hX hY hsz
      replace hy := Lib.hid hy
      clear hb bb8
      go_upto_region 6 with fail
      rw [← hw8]
      clear hw8 q8_0 q8_1 q8_2 hbS8
      have o8_0 := X8.out.c (i := 0) rfl
      have o8_1 := X8.out.c (i := 1) rfl
      have o8_2 := X8.out.c (i := 2) rfl
      have zz8 := X8.out.lt
      cases hup : y.up
      · have he : aheadP l (k1, k2) y = [] := by unfold aheadP; rw [if_neg (by rw [hup]; simp)]
        rw [he, List.append_nil] at hs1
        rw [hup] at o8_2
        replace hup := Lib.hid hup
        replace he := Lib.hid he
        go_wp2_with fail
        go_roundw
        case rel => exact ⟨k + 1, by omega, by go_num, by rw [hs1.out]; exact own8.out, hsz8.out, X8l.out, Y8l.out, b8.out⟩
        case measure => simp [intOf]; omega
      · have he : aheadP l (k1, k2) y = (onS l y.seg).map (onw l (k1, k2)) := by unfold aheadP; rw [if_pos hup]; rfl
        rw [he] at hs1
        rw [hup] at o8_2
        replace hup := Lib.hid hup
        replace he := Lib.hid he
        have hwy := Lib.hid (show whyI l y.seg = 0 by unfold whyI; rw [if_pos HO.out, if_pos ⟨hyo.out.1, hyo.out.2.1⟩])
        have hON := Lib.hid (fun (W : World) (hW : Below w8.heap.size w8 W) => o_on_new (HL.out.below (bt B3.out (bt b8.out hW))) HS.out hwy.out)
        rw [ports_onS] at hON
        obtain ⟨S, hS⟩ : ∃ S, onS l y.seg = S := ⟨_, rfl⟩
        have hSl : S.length ≤ 80 := by rw [← hS]; exact onS_len HS.out.plans HS.out.ports _
        have hSm := Lib.hid (fun q (hq : q ∈ S) => mem_onS.1 (by rw [hS]; exact hq : q ∈ onS l y.seg))
        rw [hS] at hON hs1
        rw [List.length_map] at hON
        replace hS := Lib.hid hS
        have x0 := X8l.out.c (i := 0) rfl
        have x1 := X8l.out.c (i := 1) rfl
        have x2 := X8l.out.c (i := 2) rfl
        have zx := X8l.out.lt
        go_wp2_with fail
        go_at_call 24
        (with_reducible refine (hON.out _ (Below.refl _ _)).mono ?_)
        rintro e w9 ⟨A5, c5, A6, c6, rfl, _, R6, hb9'⟩
        have R9 := Lib.hid R6.1
        have hfar := Lib.hid (show ∀ a, A6 = some a → (Value.slice A3 K.length c3).ownBlock ≠ some a.block from fun a ha e => by have h1 := R6.2 a ha; have h2 := (own8.out.lt _ e).2; omega)
        have own9' := Lib.hid (own8.out.below hb9')
        have X9 := Lib.hid (X8l.out.below hb9')
        have Y9 := Lib.hid (Y8l.out.below hb9')
        have B9 := Lib.hid (bt b8.out hb9')
        have hsz9 := Lib.hid (Nat.le_trans hsz8.out hb9'.size)
        clear R6 hb9' own8 X8l Y8l b8 hsz8 x0 x1 x2 zx o8_0 o8_1 o8_2 zz8 X8 hON
        have hf6 := Lib.hid R9.out.mx
        have hc6 := Lib.hid R9.out.cap
        go_wp2_with fail
        obtain ⟨wi0, hwi0⟩ : ∃ W, W = w9 := ⟨_, rfl⟩
        subst hwi0
        go_loopw [5, 42] (fun v i wi => ∃ j : Nat, j ≤ S.length ∧ i = .int .i64 j ∧ Own wi bz 92 1 v ((K ++ (S.take j).map (onw l (k1, k2))).map wc) ∧ bz ≤ wi.heap.size ∧ Bx wi w.heap.size 25 (lc l (some ⟨bP, oP, none⟩) c B d) ∧ Bx wi gW 33 #[.int .i64 k1, .int .i64 k2] ∧ Row ec 2 wi A6 S.length c6 (S.map nz) ∧ (∀ a, A6 = some a → v.ownBlock ≠ some a.block) ∧ Below wbx.heap.size wbx wi) (fun _ i _ => S.length - (intOf i).toNat)
        case atStart => exact ⟨0, by omega, rfl, by rw [List.take_zero, List.map_nil, List.append_nil]; exact own9'.out, hsz9.out, X9.out, Y9.out, R9.out, hfar.out, B9.out⟩
        case round =>
          clear own9' X9 Y9 R9 B9 hsz9 hfar
          obtain ⟨j, hj, rfl, hown, hsz, hX, hY, hR, hfar, hb⟩ := hrel
          obtain ⟨A7, c7, hv7⟩ := own_form hown
          subst hv7
          by_cases hjn : j < S.length
          · have hjl : (j : Int) < (S.length : Int) := by omega
            obtain ⟨q, hq⟩ : ∃ q, S[j]? = some q := ⟨_, List.getElem?_eq_getElem hjn⟩
            obtain ⟨bS, oS, hAS, hbS, r0, r1⟩ := Row.eat hR (k := j) (x := nz q) (by rw [List.getElem?_map, hq]; rfl)
            subst hAS
            unfold nz at r0 r1
            simp only at r0 r1
            have hq1 := hSm.out q (List.mem_of_getElem? hq)
            have hs2 := Lib.hid (take_map_succ (onw l (k1, k2)) hq)
            have hLK := Lib.hid (fun (W : World) (hW : Below wbx.heap.size wbx W) => o_linkat (HL.out.below (bt B3.out hW)) HS.out hq1.1 hq1.2.1)
            have hcs := ok_lk HO.out _ (pl_mem hq1.1) _ (prt_mem hq1.2.1)
            have how := Lib.hid (show onw l (k1, k2) q = Wy.on q.1 k1 (k2 + (prt l q.1 q.2).cost) from rfl)
            obtain ⟨pt, hpt⟩ : ∃ pt, prt l q.1 q.2 = pt := ⟨_, rfl⟩
            rw [hpt] at hLK hcs how
            rw [how.out] at hs2
            have hsum : wrap64 (k2 + pt.cost) = k2 + pt.cost := IntWalk.wrap64_in _ (by have := HK.out; omega)
            obtain ⟨M, hM⟩ : ∃ M, K ++ (S.take j).map (onw l (k1, k2)) = M := ⟨_, rfl⟩
            have hMl := Lib.hid (show M.length ≤ 1000 by rw [← hM, List.length_append, List.length_map, List.length_take]; have := hlenL.out; omega)
            have hM2 := Lib.hid (show K ++ (S.take (j + 1)).map (onw l (k1, k2)) = M ++ [Wy.on q.1 k1 (k2 + pt.cost)] by rw [hs2.out, ← hM, List.append_assoc])
            rw [hM] at hown hfar ⊢
            obtain ⟨w20, hw20⟩ : ∃ W, W = wr.alloc (.cells #[.int .i64 q.1, .int .i64 q.2] 33) := ⟨_, rfl⟩
            have bb20 : Below wr.heap.size wr w20 := by rw [hw20]; exact (Below.refl _ _).alloc (Nat.le_refl _) _
            have Q20 := Lib.hid (show Bx w20 wr.heap.size 33 #[.int .i64 q.1, .int .i64 q.2] by rw [hw20]; exact Bx.new _ _ _ rfl)
            have own20 := Lib.hid (hown.below bb20)
            have X20 := Lib.hid (hX.below bb20)
            have Y20 := Lib.hid (hY.below bb20)
            have R20 := Lib.hid (hR.below bb20)
            have B20 := Lib.hid (bt hb bb20)
            have sz20 := Lib.hid (Nat.le_trans hsz bb20.size)
            have hbS2 := Lib.hid hbS
            have B20s := Lib.hid bb20.size
            obtain ⟨gQ, hgQ⟩ : ∃ g, g = wr.heap.size := ⟨_, rfl⟩
            rw [← hgQ] at Q20
            replace hfar := Lib.hid hfar
            replace hpt := Lib.hid hpt
            replace hM := Lib.hid hM
            replace hq := Lib.hid hq
            clear hown hX hY hR hb hsz bb20 hq1 hs2 how hcs
            go_upto_region 11 with fail
            rw [← hw20, ← hgQ]
            clear hw20 r0 r1 hbS
            replace hgQ := Lib.hid hgQ
            have x0 := X20.out.c (i := 0) rfl
            have x1 := X20.out.c (i := 1) rfl
            have x2 := X20.out.c (i := 2) rfl
            have zx := X20.out.lt
            have q0 := Q20.out.c (i := 0) rfl
            have q1 := Q20.out.c (i := 1) rfl
            have zq := Q20.out.lt
            have hfc := field_cost pt
            go_wp2_with fail
            go_at_call 64
            (with_reducible refine (hLK.out _ B20.out).mono ?_)
            rintro e w21 ⟨rfl, hb21⟩
            have own21 := Lib.hid (own20.out.below hb21)
            have X21 := Lib.hid (X20.out.below hb21)
            have Y21 := Lib.hid (Y20.out.below hb21)
            have Q21 := Lib.hid (Q20.out.below hb21)
            have R21 := Lib.hid (R20.out.below hb21)
            have B21 := Lib.hid (bt B20.out hb21)
            have sz21 := Lib.hid (Nat.le_trans sz20.out hb21.size)
            have B21s := Lib.hid hb21.size
            clear hb21 own20 X20 Y20 Q20 R20 B20 sz20 x0 x1 x2 zx q0 q1 zq
            have q0 := Q21.out.c (i := 0) rfl
            have zq := Q21.out.lt
            have y0 := Y21.out.c (i := 0) rfl
            have y1 := Y21.out.c (i := 1) rfl
            have zy := Y21.out.lt
            have hlenL := hMl
            have sz21b := sz21
            obtain ⟨w9, hw9⟩ : ∃ W, W = w21.alloc (.cells #[.iface 123 (.agg #[.int .i64 q.1, .int .i64 k1, .int .i64 (k2 + pt.cost)])] 92) := ⟨_, rfl⟩
            have b9 : Below w21.heap.size w21 w9 := by rw [hw9]; exact (Below.refl _ _).alloc (Nat.le_refl _) _
            have hsl := Lib.hid (show Sl w9 1 (some ⟨w21.heap.size, 0, none⟩) ([Wy.on q.1 k1 (k2 + pt.cost)].map wc) from bx_sl (T := 92) (vals := #[.iface 123 (.agg #[.int .i64 q.1, .int .i64 k1, .int .i64 (k2 + pt.cost)])]) (by rw [hw9]; exact Bx.new _ _ _ rfl) rfl (by intro c hc; simp at hc; subst hc; rfl))
            have own9 := Lib.hid (own21.out.below b9)
            have hb9 := Lib.hid (bt B21.out b9)
            have hn1 : Hid ((M.map wc).length + ([Wy.on q.1 k1 (k2 + pt.cost)].map wc).length ≤ 1000000) := Lib.hid (by rw [List.length_map]; have := hlenL.out; simp; omega)
            have hvl : Hid ((M.map wc).length = M.length) := Lib.hid (by rw [List.length_map])
            have hB2 : Hid (wbx.heap.size ≤ w9.heap.size) := Lib.hid hb9.out.size
            have hlt9 := Lib.hid (show ∀ j, (Value.slice A7 M.length c7).ownBlock = some j → wbx.heap.size ≤ j from fun j hj => by have := (own9.out.lt j hj).1; rw [← hbz0.out]; exact this)
            have hlo9 := Lib.hid (show ∀ j, (Value.slice A7 M.length c7).ownBlock = some j → bz ≤ j from fun j hj => And.left (own9.out.lt j hj))
            replace hB2 := Lib.hid (show bz ≤ w9.heap.size from Nat.le_trans sz21.out b9.size)
            have hbS9 := Lib.hid (show bS < w9.heap.size from Nat.lt_of_lt_of_le hbS2.out (Nat.le_trans B20s.out (Nat.le_trans B21s.out b9.size)))
            have X9l := Lib.hid (X21.out.below b9)
            have Y9l := Lib.hid (Y21.out.below b9)
            have R9l := Lib.hid (R21.out.below b9)
            clear b9
            go_wp2_with (at_builtin; rw [← hw9]; (refine wpList_append_sl rfl (.tmp 50) (.tmp 61) 85 rfl elWs (by rfl) own9.out (by rfl) (by rfl) hsl.out (wholeW _) (fun h => by cases h) hn1.out hB2.out ?_); intro v' w4 own1 grow1 hv1)
            have b4 : Below wbx.heap.size wbx w4 := hb9.out.grown grow1 hb9.out.size (fun j hj => hlt9.out j hj)
            have hX4 := X9l.out.grown grow1 (fun e => by have := hlo9.out _ e.symm; have := hg2.out; omega)
            have hY4 := Y9l.out.grown grow1 (fun e => by have := hlo9.out _ e.symm; have := hg2.out; omega)
            have hR4 := R9l.out.grown grow1 (fun a ha _ e => hfar.out a ha e.symm)
            have hsz4 := Nat.le_trans hB2.out grow1.size
            have hfar4 : ∀ a, (some (⟨bS, oS, none⟩ : Addr)) = some a → v'.ownBlock ≠ some a.block := fun a ha e => by
              rcases hv1 with h1 | h1
              · exact hfar.out a ha (h1.symm.trans e)
              · have e2 := h1.symm.trans e
                have e3 := Option.some.inj e2
                have e4 := Option.some.inj ha
                rw [← e4] at e3
                have := hbS9.out
                simp only at e3
                omega
            clear grow1 hv1
            go_roundw
            case rel => exact ⟨j + 1, by omega, by go_num, by rw [hM2.out]; exact own_snoc own1, hsz4, hX4, hY4, hR4, hfar4, b4⟩
            case measure => simp [intOf]; omega
          · obtain rfl : j = S.length := by omega
            rw [List.take_length] at hown hfar ⊢
            have hfin := Lib.hid (show K ++ S.map (onw l (k1, k2)) = (p.ports.take (k + 1)).flatMap (aheadP l (k1, k2)) from hs1.out.symm)
            obtain ⟨m7, hm7⟩ : ∃ m, (K ++ S.map (onw l (k1, k2))).length = m := ⟨_, rfl⟩
            rw [hm7] at hown ⊢
            rw [hfin.out] at hown
            replace hown := Lib.hid hown
            replace hX := Lib.hid hX
            replace hY := Lib.hid hY
            replace hb := Lib.hid hb
            replace hsz := Lib.hid hsz
            replace hm7 := Lib.hid hm7
            clear hR hfar
            go_wp2_with fail
            go_roundw
            case rel => exact ⟨k + 1, by omega, by go_num, hown.out, hsz.out, hX.out, hY.out, hb.out⟩
            case measure => simp [intOf]; omega
    · obtain rfl : k = p.ports.length := by omega
      rw [List.take_length] at hown hlenL ⊢
      have hfl : p.ports.flatMap (aheadP l (k1, k2)) = aheadL l b (k1, k2) := by unfold aheadL; rw [hp.out]
      rw [hfl] at hown ⊢
      replace hown := Lib.hid (hown.base (show w.heap.size ≤ bz by have := hg2.out; omega))
      have hbW := Lib.hid (bt B3.out hb)
      clear hX hY hsz hb
      replace hfl := Lib.hid hfl
      go_wp2_with fail
      go_ret
      exact ⟨A3, c3, rfl, hown.out, hbW.out⟩
end Go.Proofs.Ytplgaenfcaphnaa.LanP
