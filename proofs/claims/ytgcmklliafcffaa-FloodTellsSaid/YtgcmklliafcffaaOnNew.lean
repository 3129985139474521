/-
  lan.On with a row of its own; ports on a segment as pairs of numbers.
-/
import Derived.Test.YtgcmklliafcffaaTreeA
import Derived.Test.YtgcmklliafcffaaLanF
import Derived.Test.YtgcmklliafcffaaLanK
import Derived.Test.YtgcmklliafcffaaRegEnd
import Derived.BigRegion
import Derived.Deep.LoopGhost
namespace Go.Proofs.Ytgcmklliafcffaa.LanP
open Go.RowKit Go.Sort Go.Proofs.Ytgcmklliafcffaa.SliceP Go.Proofs.Ytgcmklliafcffaa.BoxP
open Go.Proofs.Ytgcmklliafcffaa.IntP (RowI SlI OwnI)
open Go.Proofs.Ytgcmklliafcffaa.BoolP (RowB SlB OwnB)
open Go.Proofs.Ytgcmklliafcffaa.MacP (arr_out Wrote wp_region_ends outM)
set_option linter.unusedVariables false
set_option maxRecDepth 100000
theorem port_get {l : L} {b k : Nat} {p : P} {x : Lk} (h1 : l.plans[b]? = some p) (h2 : p.ports[k]? = some x) : prt l b k = x := by
  unfold prt pl; rw [List.getD_eq_getElem?_getD, List.getD_eq_getElem?_getD, h1]; simp [h2]
theorem plan_get {l : L} {b : Nat} (h : b < l.plans.length) : l.plans[b]? = some (pl l b) := by unfold pl; rw [List.getD_eq_getElem?_getD, List.getElem?_eq_getElem h]; rfl
theorem ports_get {l : L} {b k : Nat} (h : k < (pl l b).ports.length) : (pl l b).ports[k]? = some (prt l b k) := by unfold prt; rw [List.getD_eq_getElem?_getD, List.getElem?_eq_getElem h]; rfl
def nz (q : Nat × Nat) : Int × Int := ((q.1 : Int), (q.2 : Int))
theorem ports_onS (l : L) (s : Int) : portsOf l.plans s = (onS l s).map nz := by
  unfold portsOf onS
  rw [List.map_flatMap]
  have key : ∀ b ∈ List.range l.plans.length, portsRow l.plans s b = (((List.range (pl l b).ports.length).filter fun k => (prt l b k).up && (prt l b k).seg == s).map fun k => (b, k)).map nz := fun b hb => by
    have hb := List.mem_range.1 hb
    have e : portsRow l.plans s b = portsTo (pl l b) s b (pl l b).ports.length := by
      unfold portsRow
      have : l.plans[b]? = some (pl l b) := by unfold pl; rw [List.getD_eq_getElem?_getD, List.getElem?_eq_getElem hb]; rfl
      rw [this]
    rw [e]
    unfold portsTo
    have key2 : ∀ m, m ≤ (pl l b).ports.length → (List.range m).flatMap (portAt (pl l b) s b) = (((List.range m).filter fun k => (prt l b k).up && (prt l b k).seg == s).map fun k => (b, k)).map nz := by
      intro m
      induction m with
      | zero => intro _; rfl
      | succ m ih =>
        intro hm
        rw [flat_succ, ih (by omega), List.range_succ, List.filter_append, List.map_append, List.map_append]
        congr 1
        unfold portAt
        have : (pl l b).ports[m]? = some (prt l b m) := by unfold prt; rw [List.getD_eq_getElem?_getD, List.getElem?_eq_getElem (by omega)]; rfl
        rw [this]
        simp only [List.filter_cons, List.filter_nil]
        split <;> rfl
    exact key2 _ (Nat.le_refl _)
  generalize List.range l.plans.length = R at key
  induction R with
  | nil => rfl
  | cons a r ih => rw [List.flatMap_cons, List.flatMap_cons, key a (by simp), ih (fun b hb => key b (List.mem_cons_of_mem _ hb))]
theorem onS_len {l : L} (hs : l.plans.length ≤ 8) (hp : ∀ p ∈ l.plans, p.ports.length ≤ 10) (s : Int) : (onS l s).length ≤ 80 := by
  unfold onS
  have := fm_len (fun b => ((List.range (pl l b).ports.length).filter fun k => (prt l b k).up && (prt l b k).seg == s).map fun k => (b, k)) 10 (List.range l.plans.length) (fun b hb => by
    rw [List.length_map]
    have h1 := List.length_filter_le (fun k => (prt l b k).up && (prt l b k).seg == s) (List.range (pl l b).ports.length)
    have h2 := hp _ (pl_mem (List.mem_range.1 hb))
    rw [List.length_range] at h1
    omega)
  rw [List.length_range] at this
  omega
/-- A row of pairs that is new since w0. -/
def RowN (w0 w : World) (A : Option Addr) (n c : Nat) (l : List (Int × Int)) : Prop := Row ec 2 w A n c l ∧ ∀ a, A = some a → w0.heap.size ≤ a.block
theorem RowN.below {w0 w w' : World} {A : Option Addr} {n c : Nat} {l : List (Int × Int)} (h : RowN w0 w A n c l) (hb : Below w.heap.size w w') : RowN w0 w' A n c l := ⟨h.1.below hb, h.2⟩
set_option maxHeartbeats 16000000 in
theorem o_on_new {l : L} {A : Option Addr} {c : Nat} {B : Option Addr} {d : Nat} {w : World} (hr : LanR w l A c B d) (hs : Small l) {s : Int} (hw : whyI l s = 0) :
    Calls Try.prog 20 #[lv l A c B d, .int .i64 s] w fun e w' => ∃ A1 c1 A2 c2, e = .returned (.tuple #[.slice A1 (hostsOf l.hosts s).length c1, .slice A2 (portsOf l.plans s).length c2, .int .i64 0]) ∧ Row hc 2 w' A1 (hostsOf l.hosts s).length c1 (hostsOf l.hosts s) ∧ RowN w w' A2 (portsOf l.plans s).length c2 (portsOf l.plans s) ∧ Below w.heap.size w w' := by
  have H := Lib.hid hr
  have HS := Lib.hid hs
  obtain ⟨w0, hw0, X0, R0, B0⟩ := new3 w hr
  have hR := Lib.hid (o_check R0 hs s hw)
  replace hw := Lib.hid hw
  replace X0 := Lib.hid X0
  replace B0 := Lib.hid B0
  clear hr hs R0
  go_enter Try.func20, Try.ntmps20
  go_upto_region 1 with fail
  rw [← hw0]
  clear hw0
  have x0 := X0.out.c (i := 0) rfl
  have x1 := X0.out.c (i := 1) rfl
  have x2 := X0.out.c (i := 2) rfl
  have zz := X0.out.lt
  go_wp2_with fail
  go_at_call 48
  (with_reducible refine hR.out.mono ?_)
  rintro e w1 ⟨rfl, hb1⟩
  have B1 := Lib.hid (bt B0.out hb1)
  have X1 := Lib.hid (X0.out.below hb1)
  have H1 := Lib.hid (H.out.below B1.out)
  have hH := Lib.hid (fun W (hW : Below w1.heap.size w1 W) => o_hostson (H1.out.hosts.below hW) (by have := HS.out.hosts; omega) s)
  have hP := Lib.hid (fun W (hW : Below w1.heap.size w1 W) => o_portson (H1.out.plans.below hW) (by have := HS.out.plans; omega) HS.out.ports s)
  clear hb1 x0 x1 x2 zz hR
  have x0 := X1.out.c (i := 0) rfl
  have x1 := X1.out.c (i := 1) rfl
  have x2 := X1.out.c (i := 2) rfl
  have zz := X1.out.lt
  go_upto_region 4 with fail
  refine wp_region_ends (by kernel_rfl) (fun ix => match ix with | 0 => 14 | 1 => 15 | 2 => 16 | 3 => 17 | 4 => 18 | 5 => 19 | 6 => 20 | 7 => 21 | _ => 0) 8 (by kernel_rfl) (fun i v W => match i with | 0 => v = .pointer (some ⟨w.heap.size, 2, none⟩) | 1 => v = .slice B l.hosts.length d | 2 => v = .int .i64 s | 3 => ∃ A' c', v = .slice A' (hostsOf l.hosts s).length c' ∧ Row hc 2 W A' (hostsOf l.hosts s).length c' (hostsOf l.hosts s) | 4 => v = .pointer (some ⟨w.heap.size, 1, none⟩) | 5 => v = .slice A l.plans.length c | 6 => v = .int .i64 s | 7 => ∃ A' c', v = .slice A' (portsOf l.plans s).length c' ∧ RowN w W A' (portsOf l.plans s).length c' (portsOf l.plans s) | _ => True) (fun i v W W' h hb => by
      match i with
      | 0 => exact h
      | 1 => exact h
      | 2 => exact h
      | 3 => exact (by obtain ⟨A', c', h1, h2⟩ := h; exact ⟨A', c', h1, h2.below hb⟩)
      | 4 => exact h
      | 5 => exact h
      | 6 => exact h
      | 7 => exact (by obtain ⟨A', c', h1, h2⟩ := h; exact ⟨A', c', h1, h2.below hb⟩)
      | n + 8 => exact trivial) ?_ ?_
  refine ⟨?_, ?_, ?_, ?_, ?_, ?_, ?_, ?_, trivial⟩
  · as_aux_lemma =>
      intro a W2 K hb hdep hk hK
      replace hK : ∀ v w', (v = .pointer (some ⟨w.heap.size, 2, none⟩)) → Below W2.heap.size W2 w' → K (a.put (some 14) v) w' := hK
      have d2 : a.tmps.getD 2 undef = .pointer (some ⟨w.heap.size, 0, none⟩) := hk 2 (by kernel_rfl)
      clear hdep hk hb
      go_simp
      exact hK _ _ rfl (Below.refl _ _)
  · as_aux_lemma =>
      intro a W2 K hb hdep hk hK
      replace hK : ∀ v w', (v = .slice B l.hosts.length d) → Below W2.heap.size W2 w' → K (a.put (some 15) v) w' := hK
      have d14 : a.tmps.getD 14 undef = .pointer (some ⟨w.heap.size, 2, none⟩) := hdep ⟨0, .data⟩ (by simp) rfl
      have t2 := (hb.cell (p := ⟨w.heap.size, 2, none⟩) zz).trans x2
      clear hdep hk hb
      go_simp
      exact hK _ _ rfl (Below.refl _ _)
  · as_aux_lemma =>
      intro a W2 K hb hdep hk hK
      replace hK : ∀ v w', (v = .int .i64 s) → Below W2.heap.size W2 w' → K (a.put (some 16) v) w' := hK
      have d1 : a.tmps.getD 1 undef = .int .i64 s := hk 1 (by kernel_rfl)
      clear hdep hk hb
      go_simp
      exact hK _ _ rfl (Below.refl _ _)
  · as_aux_lemma =>
      intro a W2 K hb hdep hk hK
      replace hK : ∀ v w', (∃ A' c', v = .slice A' (hostsOf l.hosts s).length c' ∧ Row hc 2 w' A' (hostsOf l.hosts s).length c' (hostsOf l.hosts s)) → Below W2.heap.size W2 w' → K (a.put (some 17) v) w' := hK
      have d15 : a.tmps.getD 15 undef = .slice B l.hosts.length d := hdep ⟨1, .data⟩ (by simp) rfl
      have d16 : a.tmps.getD 16 undef = .int .i64 s := hdep ⟨2, .data⟩ (by simp) rfl
      have hcall := hH.out W2 hb
      clear hdep hk hb
      have q15 : a.tmps[15]?.getD undef = .slice B l.hosts.length d := by simpa [Array.getD_eq_getD_getElem?] using d15
      clear d15
      have q16 : a.tmps[16]?.getD undef = .int .i64 s := by simpa [Array.getD_eq_getD_getElem?] using d16
      clear d16
      go_simp
      refine hcall.mono ?_
      rintro e w9 ⟨A9, c9, rfl, o9, hb9⟩
      exact hK _ _ ⟨A9, c9, rfl, Row.own o9 (by decide)⟩ hb9
  · as_aux_lemma =>
      intro a W2 K hb hdep hk hK
      replace hK : ∀ v w', (v = .pointer (some ⟨w.heap.size, 1, none⟩)) → Below W2.heap.size W2 w' → K (a.put (some 18) v) w' := hK
      have d2 : a.tmps.getD 2 undef = .pointer (some ⟨w.heap.size, 0, none⟩) := hk 2 (by kernel_rfl)
      clear hdep hk hb
      go_simp
      exact hK _ _ rfl (Below.refl _ _)
  · as_aux_lemma =>
      intro a W2 K hb hdep hk hK
      replace hK : ∀ v w', (v = .slice A l.plans.length c) → Below W2.heap.size W2 w' → K (a.put (some 19) v) w' := hK
      have d18 : a.tmps.getD 18 undef = .pointer (some ⟨w.heap.size, 1, none⟩) := hdep ⟨4, .data⟩ (by simp) rfl
      have t1 := (hb.cell (p := ⟨w.heap.size, 1, none⟩) zz).trans x1
      clear hdep hk hb
      go_simp
      exact hK _ _ rfl (Below.refl _ _)
  · as_aux_lemma =>
      intro a W2 K hb hdep hk hK
      replace hK : ∀ v w', (v = .int .i64 s) → Below W2.heap.size W2 w' → K (a.put (some 20) v) w' := hK
      have d1 : a.tmps.getD 1 undef = .int .i64 s := hk 1 (by kernel_rfl)
      clear hdep hk hb
      go_simp
      exact hK _ _ rfl (Below.refl _ _)
  · as_aux_lemma =>
      intro a W2 K hb hdep hk hK
      replace hK : ∀ v w', (∃ A' c', v = .slice A' (portsOf l.plans s).length c' ∧ RowN w w' A' (portsOf l.plans s).length c' (portsOf l.plans s)) → Below W2.heap.size W2 w' → K (a.put (some 21) v) w' := hK
      have d19 : a.tmps.getD 19 undef = .slice A l.plans.length c := hdep ⟨5, .data⟩ (by simp) rfl
      have d20 : a.tmps.getD 20 undef = .int .i64 s := hdep ⟨6, .data⟩ (by simp) rfl
      have hcall := hP.out W2 hb
      have hsz := Lib.hid (Nat.le_trans B1.out.size hb.size)
      clear hdep hk hb
      have q19 : a.tmps[19]?.getD undef = .slice A l.plans.length c := by simpa [Array.getD_eq_getD_getElem?] using d19
      clear d19
      have q20 : a.tmps[20]?.getD undef = .int .i64 s := by simpa [Array.getD_eq_getD_getElem?] using d20
      clear d20
      go_simp
      refine hcall.mono ?_
      rintro e w9 ⟨A9, c9, rfl, o9, hb9⟩
      exact hK _ _ ⟨A9, c9, rfl, Row.own o9 (by decide), fun ad hd => Nat.le_trans hsz.out (own_far o9 ad hd).1⟩ hb9
  intro a W3 hb3 hsp hk hn hdf
  obtain ⟨AH, cH, h9, k9⟩ := hsp 3 (by decide)
  obtain ⟨AP, cP, h8, k8⟩ := hsp 7 (by decide)
  have s2 : a.tmps.getD 2 undef = .pointer (some ⟨w.heap.size, 0, none⟩) := hk 2 (by kernel_rfl)
  have s1 : a.tmps.getD 1 undef = .int .i64 s := hk 1 (by kernel_rfl)
  have s14 : a.tmps.getD 14 undef = .pointer (some ⟨w.heap.size, 2, none⟩) := hsp 0 (by decide)
  have s15 : a.tmps.getD 15 undef = .slice B l.hosts.length d := hsp 1 (by decide)
  have s16 : a.tmps.getD 16 undef = .int .i64 s := hsp 2 (by decide)
  have s18 : a.tmps.getD 18 undef = .pointer (some ⟨w.heap.size, 1, none⟩) := hsp 4 (by decide)
  have s19 : a.tmps.getD 19 undef = .slice A l.plans.length c := hsp 5 (by decide)
  have s20 : a.tmps.getD 20 undef = .int .i64 s := hsp 6 (by decide)
  have s17 : a.tmps.getD 17 undef = .slice AH (hostsOf l.hosts s).length cH := h9
  have s21 : a.tmps.getD 21 undef = .slice AP (portsOf l.plans s).length cP := h8
  clear hk hsp h9 h8
  obtain ⟨tm, df⟩ := a
  have e := arr_out tm 22 hn
  replace e : tm = #[tm.getD 0 undef, tm.getD 1 undef, tm.getD 2 undef, tm.getD 3 undef, tm.getD 4 undef, tm.getD 5 undef, tm.getD 6 undef, tm.getD 7 undef, tm.getD 8 undef, tm.getD 9 undef, tm.getD 10 undef, tm.getD 11 undef, tm.getD 12 undef, tm.getD 13 undef, tm.getD 14 undef, tm.getD 15 undef, tm.getD 16 undef, tm.getD 17 undef, tm.getD 18 undef, tm.getD 19 undef, tm.getD 20 undef, tm.getD 21 undef] := e
  simp only at s2 s1 s14 s15 s16 s18 s19 s20 s17 s21 hdf
  rw [s2, s1, s14, s15, s16, s18, s19, s20, s17, s21] at e
  subst hdf
  clear s2 s1 s14 s15 s16 s18 s19 s20 s17 s21 hn
  generalize tm.getD 0 undef = u0 at e
  generalize tm.getD 3 undef = u3 at e
  generalize tm.getD 4 undef = u4 at e
  generalize tm.getD 5 undef = u5 at e
  generalize tm.getD 6 undef = u6 at e
  generalize tm.getD 7 undef = u7 at e
  generalize tm.getD 8 undef = u8 at e
  generalize tm.getD 9 undef = u9 at e
  generalize tm.getD 10 undef = u10 at e
  generalize tm.getD 11 undef = u11 at e
  generalize tm.getD 12 undef = u12 at e
  generalize tm.getD 13 undef = u13 at e
  subst e
  simp only [List.drop_succ_cons, List.drop_zero]
  have Bf := Lib.hid (bt B1.out hb3)
  have r9 := Lib.hid k9
  have r8 := Lib.hid k8
  clear k9 k8 hb3
  go_wp2_with fail
  refine bodyPost_ret (v := .tuple #[.slice AH (hostsOf l.hosts s).length cH, .slice AP (portsOf l.plans s).length cP, .int .i64 0]) (by simp [results, Try.results20, go_sem]) rfl ⟨AH, cH, AP, cP, rfl, r9.out, r8.out, Bf.out⟩
end Go.Proofs.Ytgcmklliafcffaa.LanP
