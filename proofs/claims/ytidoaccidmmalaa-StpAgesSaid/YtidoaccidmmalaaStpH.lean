/-
  StpHears, by the contracts of stp's own functions.
-/
import Derived.Test.YtidoaccidmmalaaStpX
import Derived.Test.YtidoaccidmmalaaStpK
import Derived.Test.YtidoaccidmmalaaStpB
import Derived.Test.YtidoaccidmmalaaStpF
namespace Go.Proofs.Ytidoaccidmmalaa.StpP
open Go.Proofs.Ytidoaccidmmalaa.MacP (arr_out Wrote wp_region_ends outM)
open Go.RowKit Go.Sort Go.Proofs.Ytidoaccidmmalaa.SliceP Go.Proofs.Ytidoaccidmmalaa.BoxP Go.Proofs.Ytidoaccidmmalaa.VecP Go.Proofs.Ytidoaccidmmalaa.RoleP
open Go.Proofs.Ytidoaccidmmalaa.IntP (RowI SlI OwnI)
open Go.Proofs.Ytidoaccidmmalaa.BoolP (RowB SlB OwnB)
open Go.Proofs.Ytidoaccidmmalaa.PortP (okS roleS tickS sv)
set_option linter.unusedVariables false
set_option maxRecDepth 100000
/-- What New answers, whatever it is asked. -/
theorem new_any (C : StpC) {id : Int} {costs : List Int} {m d : Int} {AC : Option Addr} {cC : Nat} (hl : costs.length ≤ 1000) : ∃ (nt : T) (ne : Int) (nb : Bool),
    (∀ w : World, RowI w AC costs.length cC costs → Calls Try.prog 7 #[.int .i64 id, .slice AC costs.length cC, .int .i64 m, .int .i64 d] w (RetT w (fun b => Off b AC costs) nt (fun v => .tuple #[v, .int .i64 ne]))) ∧
    (∀ w : World, RowI w AC costs.length cC costs → Calls Try.prog 12 #[.int .i64 id, .slice AC costs.length cC, .int .i64 m, .int .i64 d] w (RetT w (fun b => Off b AC costs) nt (fun v => .tuple #[v, .bool nb]))) ∧
    Len nt ∧ (nb = true ∧ ne = 0 ∨ nb = false ∧ ne = 2 ∧ nt = T0) := by
  cases h : newOk id costs m d with
  | true => exact ⟨_, 0, true, fun w hR => C.new_ok h hl hR, fun w hR => r_new_ok h hl hR, ⟨hl, by show (costs.map fun _ => true).length ≤ 1000; rw [List.length_map]; exact hl, by show (costs.map fun _ => N0).length ≤ 1000; rw [List.length_map]; exact hl, by show (newT id costs m d).states.length ≤ 1000; unfold newT; rw [settle_len]; show (costs.map fun _ => ((0 : Int), (0 : Int))).length ≤ 1000; rw [List.length_map]; exact hl⟩, .inl ⟨rfl, rfl⟩⟩
  | false => exact ⟨T0, 2, false, fun w hR => C.new_no h hl hR, fun w hR => r_new_no h hl hR, ⟨by decide, by decide, by decide, by decide⟩, .inr ⟨rfl, rfl, rfl⟩⟩
theorem hear_len {t : T} {p : Nat} {v : V} {a : Int} (h : Len t) : Len (t.hear p v a) := by
  unfold T.hear
  by_cases c : t.hears p v a = true
  · rw [if_pos c]
    exact ⟨h.c, h.u, by show (t.self.infos.set p _).length ≤ 1000; rw [List.length_set]; exact h.n, by rw [settle_len]; exact h.s⟩
  · rw [if_neg c]; exact h
/-- What Hear answers, whatever it is asked. -/
theorem hear_any (C : StpC) {t : T} {AC : Option Addr} {cC : Nat} {AU : Option Addr} {cU : Nat} {AI : Option Addr} {cI : Nat} {AS : Option Addr} {cS : Nat} (hl : Len t) (p : Int) (v : V) (a : Int) : ∃ (ht : T) (hb : Bool) (he : Int),
    (∀ w : World, TreeR w t AC cC AU cU AI cI AS cS → Calls Try.prog 8 #[tv t AC cC AU cU AI cI AS cS, .int .i64 p, cg v a] w (RetT w (fun b => OffT b t AC AU AI AS) ht (fun x => .tuple #[x, .bool hb, .int .i64 he]))) ∧ Len ht ∧
    (t.ok = false ∧ ht = T0 ∧ hb = false ∧ he = 1 ∨ t.ok = true ∧ (p < 0 ∨ (t.states.length : Int) ≤ p) ∧ ht = T0 ∧ hb = false ∧ he = 3 ∨
      t.ok = true ∧ (0 ≤ p ∧ p < (t.states.length : Int)) ∧ cfgOk v a = false ∧ ht = T0 ∧ hb = false ∧ he = 1 ∨
      ∃ k : Nat, p = k ∧ t.ok = true ∧ k < t.states.length ∧ cfgOk v a = true ∧ ht = t.hear k v a ∧ hb = t.hears k v a ∧ he = 0) := by
  have l0 : Len T0 := ⟨by decide, by decide, by decide, by decide⟩
  cases hok : t.ok with
  | false => exact ⟨T0, false, 1, fun w h => C.hear_no hok ⟨h, hl⟩, l0, .inl ⟨rfl, rfl, rfl, rfl⟩⟩
  | true =>
    by_cases h1 : p < 0 ∨ (t.states.length : Int) ≤ p
    · exact ⟨T0, false, 3, fun w h => C.hear_range hok ⟨h, hl⟩ h1, l0, .inr (.inl ⟨rfl, h1, rfl, rfl, rfl⟩)⟩
    · obtain ⟨k, rfl⟩ : ∃ k : Nat, p = k := ⟨p.toNat, by omega⟩
      have hk : k < t.states.length := by omega
      cases hc : cfgOk v a with
      | false => exact ⟨T0, false, 1, fun w h => C.hear_arg hok ⟨h, hl⟩ hk hc, l0, .inr (.inr (.inl ⟨rfl, by omega, rfl, rfl, rfl, rfl⟩))⟩
      | true => exact ⟨_, _, 0, fun w h => C.hear_ok hok ⟨h, hl⟩ hk hc, hear_len hl, .inr (.inr (.inr ⟨k, rfl, rfl, hk, rfl, rfl, rfl, rfl⟩))⟩
theorem rright_to {t : T} {AC : Option Addr} {cC : Nat} {AU : Option Addr} {cU : Nat} {AI : Option Addr} {cI : Nat} {AS : Option Addr} {cS : Nat} {w : World} {b : Bool} (h : t.ok = b) (a : ArgT w t AC cC AU cU AI cI AS cS) : Calls Try.prog 10 #[tv t AC cC AU cU AI cI AS cS] w fun e w' => e = .returned (.bool b) ∧ Below w.heap.size w w' := by
  have := rT_right a.l a.r
  rwa [h] at this
theorem right_to (C : StpC) {t : T} {AC : Option Addr} {cC : Nat} {AU : Option Addr} {cU : Nat} {AI : Option Addr} {cI : Nat} {AS : Option Addr} {cS : Nat} {w : World} {b : Bool} (h : t.ok = b) (a : ArgT w t AC cC AU cU AI cI AS cS) : Calls Try.prog 9 #[tv t AC cC AU cU AI cI AS cS] w fun e w' => e = .returned (.bool b) ∧ Below w.heap.size w w' := by
  have := C.right a
  rwa [h] at this
theorem same_zero {AC : Option Addr} {cC : Nat} {AU : Option Addr} {cU : Nat} {AI : Option Addr} {cI : Nat} {AS : Option Addr} {cS : Nat} {w : World} (h : TreeR w T0 AC cC AU cU AI cI AS cS) : Calls Try.prog 13 #[.agg #[.int .i64 0, .slice AC 0 cC, .slice AU 0 cU, .slice AI 0 cI, .slice AS 0 cS, .int .i64 0, .int .i64 0], .agg #[.int .i64 0, .slice none 0 0, .slice none 0 0, .slice none 0 0, .slice none 0 0, .int .i64 0, .int .i64 0]] w fun e w' => e = .returned (.bool true) ∧ Below w.heap.size w w' := r12_same (t := T0) ⟨by decide, by decide, by decide, by decide⟩ h (TreeR.zero w)
theorem cfg_to {v : V} {a : Int} {b : Bool} (h : cfgOk v a = b) (w : World) : Calls Try.prog 14 #[cg v a] w fun e w' => e = .returned (.bool b) ∧ Below w.heap.size w w' := by
  have := r_config v a w
  rwa [h] at this
theorem cfg_iff {v : V} {a : Int} (h : cfgOk v a = true) : v.ok = true ∧ 0 ≤ a ∧ a ≤ 255 := by
  unfold cfgOk at h
  simp only [Bool.and_eq_true, decide_eq_true_eq] at h
  exact ⟨h.1, h.2.1, h.2.2⟩
set_option maxHeartbeats 32000000 in
theorem hears_law (C : StpC) {t : T} {AC : Option Addr} {cC : Nat} {AU : Option Addr} {cU : Nat} {AI : Option Addr} {cI : Nat} {AS : Option Addr} {cS : Nat} {w : World} (hI : InP w t AC cC AU cU AI cI AS cS) {AL : Option Addr} {L : List Int} {cL : Nat} (hL : RowI w AL L.length cL L) (hcL : cL ≤ 9223372036854775807) (id m d port : Int) (cv : V) (ca : Int) :
    Calls Try.prog 3 #[.int .i64 id, .slice AL L.length cL, .int .i64 m, .int .i64 d, tv t AC cC AU cU AI cI AS cS, .int .i64 port, cg cv ca] w (True1 w) := by
  show Calls Try.prog 3 #[.int .i64 id, .slice AL L.length cL, .int .i64 m, .int .i64 d, tv t AC cC AU cU AI cI AS cS, .int .i64 port, .agg #[.int .i64 cv.r, .int .i64 cv.c, .int .i64 cv.b, .int .i64 cv.p, .int .i64 ca]] w fun e w' => e = .returned (.bool true) ∧ Below w.heap.size w w'
  obtain ⟨f, hf⟩ : ∃ f, fewT t = f := ⟨_, rfl⟩
  have hfl : Len f := by rw [← hf]; exact few_len t
  have hfr : TreeR w f AC cC AU cU AI cI AS cS := by rw [← hf]; exact few_tree hI.r
  have hfew := Lib.hid fun W => few_any hI W
  rw [hf] at hfew
  obtain ⟨M, hM⟩ : ∃ M, L.take 12 = M := ⟨_, rfl⟩
  have hMr : RowI w AL M.length cL M := by rw [← hM]; exact row_few hL
  have hMl : M.length ≤ 12 := by rw [← hM, List.length_take]; omega
  have hMn : M.length = min L.length 12 := by rw [← hM, List.length_take, Nat.min_comm]
  obtain ⟨n, hn⟩ : ∃ n, M.length = n := ⟨_, rfl⟩
  have q1 : min (L.length : Int) 12 = (n : Int) := by omega
  have p1 : (if (12 : Int) < (L.length : Int) then (12 : Int) else (L.length : Int)) = (n : Int) := by split <;> omega
  have r1 : n ≤ cL := by have := hL.cap; omega
  obtain ⟨nt, ne, nb, cN, cRN, hnl, hnw⟩ := new_any C (id := id) (costs := M) (m := m) (d := d) (AC := AL) (cC := cL) (by omega)
  obtain ⟨ht, hb, he, cH, hhl, hhw⟩ := hear_any C (AC := AC) (cC := cC) (AU := AU) (cU := cU) (AI := AI) (cI := cI) (AS := AS) (cS := cS) hfl port cv ca
  have cA := Lib.hid fun W => alive_any C W
  have cRi := Lib.hid (fun (b : Bool) (h : f.ok = b) (W : World) (hR : TreeR W f AC cC AU cU AI cI AS cS) => right_to C h ⟨hR, hfl⟩)
  have cRR := Lib.hid (fun (b : Bool) (h : f.ok = b) (W : World) (hR : TreeR W f AC cC AU cU AI cI AS cS) => rright_to (w := W) h ⟨hR, hfl⟩)
  rw [hn] at cN cRN
  replace cN := Lib.hid cN
  replace cRN := Lib.hid cRN
  replace cH := Lib.hid cH
  replace hnw := Lib.hid hnw
  replace hhw := Lib.hid hhw
  replace hMn := Lib.hid hMn
  replace hn := Lib.hid hn
  replace hf := Lib.hid hf
  replace hM := Lib.hid hM
  have hlenL := hL.cap
  have hI0 := Lib.hid hI.r
  clear hI hL hMl
  obtain ⟨w0, hw0⟩ : ∃ W, W = (w.alloc (.cells #[.int .i64 t.self.id, .slice AC t.self.costs.length cC, .slice AU t.self.ups.length cU, .slice AI t.self.infos.length cI, .slice AS t.states.length cS, .int .i64 t.mx, .int .i64 t.dl] 29)).alloc (.cells #[.int .i64 cv.r, .int .i64 cv.c, .int .i64 cv.b, .int .i64 cv.p, .int .i64 ca] 33) := ⟨_, rfl⟩
  have B0 : Below w.heap.size w w0 := by rw [hw0]; exact ((Below.refl _ _).alloc (Nat.le_refl _) _).alloc (by simp) _
  have S0 := Lib.hid (show Bx w0 w.heap.size 29 #[.int .i64 t.self.id, .slice AC t.self.costs.length cC, .slice AU t.self.ups.length cU, .slice AI t.self.infos.length cI, .slice AS t.states.length cS, .int .i64 t.mx, .int .i64 t.dl] by rw [hw0]; exact (Bx.new _ _ _ rfl).alloc _)
  have C0 := Lib.hid (show Bx w0 (w.heap.size + 1) 33 #[.int .i64 cv.r, .int .i64 cv.c, .int .i64 cv.b, .int .i64 cv.p, .int .i64 ca] by rw [hw0]; exact Bx.new _ _ _ (by simp))
  go_enter Try.func3, Try.ntmps3
  go_upto_region 1 with fail
  rw [← hw0]
  clear hw0
  have zS := S0.out.lt
  have o_S_0 := S0.out.c (i := 0) rfl
  have o_S_1 := S0.out.c (i := 1) rfl
  have o_S_2 := S0.out.c (i := 2) rfl
  have o_S_3 := S0.out.c (i := 3) rfl
  have o_S_4 := S0.out.c (i := 4) rfl
  have o_S_5 := S0.out.c (i := 5) rfl
  have o_S_6 := S0.out.c (i := 6) rfl
  refine wp_region_ends (by kernel_rfl) (fun ix => match ix with | 0 => 26 | 1 => 27 | 2 => 28 | 3 => 29 | 4 => 30 | 5 => 31 | 6 => 32 | _ => 0) 7 (by kernel_rfl) (fun i v W => match i with | 0 => v = .slice AL L.length cL | 1 => v = .slice AL L.length cL | 2 => v = .int .i64 L.length | 3 => v = .int .i64 n | 4 => v = .slice AL n cL | 5 => v = tv t AC cC AU cU AI cI AS cS | 6 => v = tv f AC cC AU cU AI cI AS cS | _ => True) (fun i v W W' h hb => by
      match i with
      | 0 => exact h
      | 1 => exact h
      | 2 => exact h
      | 3 => exact h
      | 4 => exact h
      | 5 => exact h
      | 6 => exact h
      | n + 7 => exact trivial) ?_ ?_
  refine ⟨?_, ?_, ?_, ?_, ?_, ?_, ?_, trivial⟩
  · as_aux_lemma =>
      intro a W2 K hb hdep hk hK
      replace hK : ∀ v w', (v = .slice AL L.length cL) → Below W2.heap.size W2 w' → K (a.put (some 26) v) w' := hK
      have d1 : a.tmps.getD 1 undef = .slice AL L.length cL := hk 1 (by kernel_rfl)
      clear hdep hk hb
      go_simp
      exact hK _ _ rfl (Below.refl _ _)
  · as_aux_lemma =>
      intro a W2 K hb hdep hk hK
      replace hK : ∀ v w', (v = .slice AL L.length cL) → Below W2.heap.size W2 w' → K (a.put (some 27) v) w' := hK
      have d1 : a.tmps.getD 1 undef = .slice AL L.length cL := hk 1 (by kernel_rfl)
      clear hdep hk hb
      go_simp
      exact hK _ _ rfl (Below.refl _ _)
  · as_aux_lemma =>
      intro a W2 K hb hdep hk hK
      replace hK : ∀ v w', (v = .int .i64 L.length) → Below W2.heap.size W2 w' → K (a.put (some 28) v) w' := hK
      have d27 : a.tmps.getD 27 undef = .slice AL L.length cL := hdep ⟨1, .data⟩ (by simp) rfl
      clear hdep hk hb
      go_simp
      exact hK _ _ rfl (Below.refl _ _)
  · as_aux_lemma =>
      intro a W2 K hb hdep hk hK
      replace hK : ∀ v w', (v = .int .i64 n) → Below W2.heap.size W2 w' → K (a.put (some 29) v) w' := hK
      have d28 : a.tmps.getD 28 undef = .int .i64 L.length := hdep ⟨2, .data⟩ (by simp) rfl
      clear hdep hk hb
      go_simp
      exact hK _ _ rfl (Below.refl _ _)
  · as_aux_lemma =>
      intro a W2 K hb hdep hk hK
      replace hK : ∀ v w', (v = .slice AL n cL) → Below W2.heap.size W2 w' → K (a.put (some 30) v) w' := hK
      have d26 : a.tmps.getD 26 undef = .slice AL L.length cL := hdep ⟨0, .data⟩ (by simp) rfl
      have d29 : a.tmps.getD 29 undef = .int .i64 n := hdep ⟨3, .data⟩ (by simp) rfl
      clear hdep hk hb
      go_simp
      exact hK _ _ rfl (Below.refl _ _)
  · as_aux_lemma =>
      intro a W2 K hb hdep hk hK
      replace hK : ∀ v w', (v = tv t AC cC AU cU AI cI AS cS) → Below W2.heap.size W2 w' → K (a.put (some 31) v) w' := hK
      have d11 : a.tmps.getD 11 undef = .pointer (some ⟨w.heap.size, 0, none⟩) := hk 11 (by kernel_rfl)
      have t0 := (hb.cell (p := ⟨w.heap.size, 0, none⟩) zS).trans o_S_0
      have t1 := (hb.cell (p := ⟨w.heap.size, 1, none⟩) zS).trans o_S_1
      have t2 := (hb.cell (p := ⟨w.heap.size, 2, none⟩) zS).trans o_S_2
      have t3 := (hb.cell (p := ⟨w.heap.size, 3, none⟩) zS).trans o_S_3
      have t4 := (hb.cell (p := ⟨w.heap.size, 4, none⟩) zS).trans o_S_4
      have t5 := (hb.cell (p := ⟨w.heap.size, 5, none⟩) zS).trans o_S_5
      have t6 := (hb.cell (p := ⟨w.heap.size, 6, none⟩) zS).trans o_S_6
      clear hdep hk hb
      go_simp
      exact hK _ _ rfl (Below.refl _ _)
  · as_aux_lemma =>
      intro a W2 K hb hdep hk hK
      replace hK : ∀ v w', (v = tv f AC cC AU cU AI cI AS cS) → Below W2.heap.size W2 w' → K (a.put (some 32) v) w' := hK
      have d31 : a.tmps.getD 31 undef = tv t AC cC AU cU AI cI AS cS := hdep ⟨5, .data⟩ (by simp) rfl
      clear hdep hk hb
      have hcall := hfew.out W2
      have q31 : a.tmps[31]?.getD undef = tv t AC cC AU cU AI cI AS cS := by simpa [Array.getD_eq_getD_getElem?] using d31
      clear d31
      go_simp
      refine hcall.mono ?_
      rintro e w9 ⟨rfl, r2⟩
      exact hK _ _ rfl r2
  intro a W3 hb3 hsp hk hn hdf
  have s0 : a.tmps.getD 0 undef = .int .i64 id := hk 0 (by kernel_rfl)
  have s1 : a.tmps.getD 1 undef = .slice AL L.length cL := hk 1 (by kernel_rfl)
  have s2 : a.tmps.getD 2 undef = .int .i64 m := hk 2 (by kernel_rfl)
  have s3 : a.tmps.getD 3 undef = .int .i64 d := hk 3 (by kernel_rfl)
  have s5 : a.tmps.getD 5 undef = .int .i64 port := hk 5 (by kernel_rfl)
  have s11 : a.tmps.getD 11 undef = .pointer (some ⟨w.heap.size, 0, none⟩) := hk 11 (by kernel_rfl)
  have s13 : a.tmps.getD 13 undef = .pointer (some ⟨w.heap.size + 1, 0, none⟩) := hk 13 (by kernel_rfl)
  have s14 : a.tmps.getD 14 undef = .bool false := hk 14 (by kernel_rfl)
  have s26 : a.tmps.getD 26 undef = .slice AL L.length cL := hsp 0 (by decide)
  have s27 : a.tmps.getD 27 undef = .slice AL L.length cL := hsp 1 (by decide)
  have s28 : a.tmps.getD 28 undef = .int .i64 L.length := hsp 2 (by decide)
  have s29 : a.tmps.getD 29 undef = .int .i64 n := hsp 3 (by decide)
  have s30 : a.tmps.getD 30 undef = .slice AL n cL := hsp 4 (by decide)
  have s31 : a.tmps.getD 31 undef = tv t AC cC AU cU AI cI AS cS := hsp 5 (by decide)
  have s32 : a.tmps.getD 32 undef = tv f AC cC AU cU AI cI AS cS := hsp 6 (by decide)
  clear hk hsp
  obtain ⟨tm, df⟩ := a
  have e := arr_out tm 143 hn
  replace e : tm = #[tm.getD 0 undef, tm.getD 1 undef, tm.getD 2 undef, tm.getD 3 undef, tm.getD 4 undef, tm.getD 5 undef, tm.getD 6 undef, tm.getD 7 undef, tm.getD 8 undef, tm.getD 9 undef, tm.getD 10 undef, tm.getD 11 undef, tm.getD 12 undef, tm.getD 13 undef, tm.getD 14 undef, tm.getD 15 undef, tm.getD 16 undef, tm.getD 17 undef, tm.getD 18 undef, tm.getD 19 undef, tm.getD 20 undef, tm.getD 21 undef, tm.getD 22 undef, tm.getD 23 undef, tm.getD 24 undef, tm.getD 25 undef, tm.getD 26 undef, tm.getD 27 undef, tm.getD 28 undef, tm.getD 29 undef, tm.getD 30 undef, tm.getD 31 undef, tm.getD 32 undef, tm.getD 33 undef, tm.getD 34 undef, tm.getD 35 undef, tm.getD 36 undef, tm.getD 37 undef, tm.getD 38 undef, tm.getD 39 undef, tm.getD 40 undef, tm.getD 41 undef, tm.getD 42 undef, tm.getD 43 undef, tm.getD 44 undef, tm.getD 45 undef, tm.getD 46 undef, tm.getD 47 undef, tm.getD 48 undef, tm.getD 49 undef, tm.getD 50 undef, tm.getD 51 undef, tm.getD 52 undef, tm.getD 53 undef, tm.getD 54 undef, tm.getD 55 undef, tm.getD 56 undef, tm.getD 57 undef, tm.getD 58 undef, tm.getD 59 undef, tm.getD 60 undef, tm.getD 61 undef, tm.getD 62 undef, tm.getD 63 undef, tm.getD 64 undef, tm.getD 65 undef, tm.getD 66 undef, tm.getD 67 undef, tm.getD 68 undef, tm.getD 69 undef, tm.getD 70 undef, tm.getD 71 undef, tm.getD 72 undef, tm.getD 73 undef, tm.getD 74 undef, tm.getD 75 undef, tm.getD 76 undef, tm.getD 77 undef, tm.getD 78 undef, tm.getD 79 undef, tm.getD 80 undef, tm.getD 81 undef, tm.getD 82 undef, tm.getD 83 undef, tm.getD 84 undef, tm.getD 85 undef, tm.getD 86 undef, tm.getD 87 undef, tm.getD 88 undef, tm.getD 89 undef, tm.getD 90 undef, tm.getD 91 undef, tm.getD 92 undef, tm.getD 93 undef, tm.getD 94 undef, tm.getD 95 undef, tm.getD 96 undef, tm.getD 97 undef, tm.getD 98 undef, tm.getD 99 undef, tm.getD 100 undef, tm.getD 101 undef, tm.getD 102 undef, tm.getD 103 undef, tm.getD 104 undef, tm.getD 105 undef, tm.getD 106 undef, tm.getD 107 undef, tm.getD 108 undef, tm.getD 109 undef, tm.getD 110 undef, tm.getD 111 undef, tm.getD 112 undef, tm.getD 113 undef, tm.getD 114 undef, tm.getD 115 undef, tm.getD 116 undef, tm.getD 117 undef, tm.getD 118 undef, tm.getD 119 undef, tm.getD 120 undef, tm.getD 121 undef, tm.getD 122 undef, tm.getD 123 undef, tm.getD 124 undef, tm.getD 125 undef, tm.getD 126 undef, tm.getD 127 undef, tm.getD 128 undef, tm.getD 129 undef, tm.getD 130 undef, tm.getD 131 undef, tm.getD 132 undef, tm.getD 133 undef, tm.getD 134 undef, tm.getD 135 undef, tm.getD 136 undef, tm.getD 137 undef, tm.getD 138 undef, tm.getD 139 undef, tm.getD 140 undef, tm.getD 141 undef, tm.getD 142 undef] := e
  simp only at s0 s1 s2 s3 s5 s11 s13 s14 s26 s27 s28 s29 s30 s31 s32 hdf
  rw [s0, s1, s2, s3, s5, s11, s13, s14, s26, s27, s28, s29, s30, s31, s32] at e
  subst hdf
  clear s0 s1 s2 s3 s5 s11 s13 s14 s26 s27 s28 s29 s30 s31 s32 hn
  generalize tm.getD 4 undef = u4 at e
  generalize tm.getD 6 undef = u6 at e
  generalize tm.getD 7 undef = u7 at e
  generalize tm.getD 8 undef = u8 at e
  generalize tm.getD 9 undef = u9 at e
  generalize tm.getD 10 undef = u10 at e
  generalize tm.getD 12 undef = u12 at e
  generalize tm.getD 15 undef = u15 at e
  generalize tm.getD 16 undef = u16 at e
  generalize tm.getD 17 undef = u17 at e
  generalize tm.getD 18 undef = u18 at e
  generalize tm.getD 19 undef = u19 at e
  generalize tm.getD 20 undef = u20 at e
  generalize tm.getD 21 undef = u21 at e
  generalize tm.getD 22 undef = u22 at e
  generalize tm.getD 23 undef = u23 at e
  generalize tm.getD 24 undef = u24 at e
  generalize tm.getD 25 undef = u25 at e
  generalize tm.getD 33 undef = u33 at e
  generalize tm.getD 34 undef = u34 at e
  generalize tm.getD 35 undef = u35 at e
  generalize tm.getD 36 undef = u36 at e
  generalize tm.getD 37 undef = u37 at e
  generalize tm.getD 38 undef = u38 at e
  generalize tm.getD 39 undef = u39 at e
  generalize tm.getD 40 undef = u40 at e
  generalize tm.getD 41 undef = u41 at e
  generalize tm.getD 42 undef = u42 at e
  generalize tm.getD 43 undef = u43 at e
  generalize tm.getD 44 undef = u44 at e
  generalize tm.getD 45 undef = u45 at e
  generalize tm.getD 46 undef = u46 at e
  generalize tm.getD 47 undef = u47 at e
  generalize tm.getD 48 undef = u48 at e
  generalize tm.getD 49 undef = u49 at e
  generalize tm.getD 50 undef = u50 at e
  generalize tm.getD 51 undef = u51 at e
  generalize tm.getD 52 undef = u52 at e
  generalize tm.getD 53 undef = u53 at e
  generalize tm.getD 54 undef = u54 at e
  generalize tm.getD 55 undef = u55 at e
  generalize tm.getD 56 undef = u56 at e
  generalize tm.getD 57 undef = u57 at e
  generalize tm.getD 58 undef = u58 at e
  generalize tm.getD 59 undef = u59 at e
  generalize tm.getD 60 undef = u60 at e
  generalize tm.getD 61 undef = u61 at e
  generalize tm.getD 62 undef = u62 at e
  generalize tm.getD 63 undef = u63 at e
  generalize tm.getD 64 undef = u64 at e
  generalize tm.getD 65 undef = u65 at e
  generalize tm.getD 66 undef = u66 at e
  generalize tm.getD 67 undef = u67 at e
  generalize tm.getD 68 undef = u68 at e
  generalize tm.getD 69 undef = u69 at e
  generalize tm.getD 70 undef = u70 at e
  generalize tm.getD 71 undef = u71 at e
  generalize tm.getD 72 undef = u72 at e
  generalize tm.getD 73 undef = u73 at e
  generalize tm.getD 74 undef = u74 at e
  generalize tm.getD 75 undef = u75 at e
  generalize tm.getD 76 undef = u76 at e
  generalize tm.getD 77 undef = u77 at e
  generalize tm.getD 78 undef = u78 at e
  generalize tm.getD 79 undef = u79 at e
  generalize tm.getD 80 undef = u80 at e
  generalize tm.getD 81 undef = u81 at e
  generalize tm.getD 82 undef = u82 at e
  generalize tm.getD 83 undef = u83 at e
  generalize tm.getD 84 undef = u84 at e
  generalize tm.getD 85 undef = u85 at e
  generalize tm.getD 86 undef = u86 at e
  generalize tm.getD 87 undef = u87 at e
  generalize tm.getD 88 undef = u88 at e
  generalize tm.getD 89 undef = u89 at e
  generalize tm.getD 90 undef = u90 at e
  generalize tm.getD 91 undef = u91 at e
  generalize tm.getD 92 undef = u92 at e
  generalize tm.getD 93 undef = u93 at e
  generalize tm.getD 94 undef = u94 at e
  generalize tm.getD 95 undef = u95 at e
  generalize tm.getD 96 undef = u96 at e
  generalize tm.getD 97 undef = u97 at e
  generalize tm.getD 98 undef = u98 at e
  generalize tm.getD 99 undef = u99 at e
  generalize tm.getD 100 undef = u100 at e
  generalize tm.getD 101 undef = u101 at e
  generalize tm.getD 102 undef = u102 at e
  generalize tm.getD 103 undef = u103 at e
  generalize tm.getD 104 undef = u104 at e
  generalize tm.getD 105 undef = u105 at e
  generalize tm.getD 106 undef = u106 at e
  generalize tm.getD 107 undef = u107 at e
  generalize tm.getD 108 undef = u108 at e
  generalize tm.getD 109 undef = u109 at e
  generalize tm.getD 110 undef = u110 at e
  generalize tm.getD 111 undef = u111 at e
  generalize tm.getD 112 undef = u112 at e
  generalize tm.getD 113 undef = u113 at e
  generalize tm.getD 114 undef = u114 at e
  generalize tm.getD 115 undef = u115 at e
  generalize tm.getD 116 undef = u116 at e
  generalize tm.getD 117 undef = u117 at e
  generalize tm.getD 118 undef = u118 at e
  generalize tm.getD 119 undef = u119 at e
  generalize tm.getD 120 undef = u120 at e
  generalize tm.getD 121 undef = u121 at e
  generalize tm.getD 122 undef = u122 at e
  generalize tm.getD 123 undef = u123 at e
  generalize tm.getD 124 undef = u124 at e
  generalize tm.getD 125 undef = u125 at e
  generalize tm.getD 126 undef = u126 at e
  generalize tm.getD 127 undef = u127 at e
  generalize tm.getD 128 undef = u128 at e
  generalize tm.getD 129 undef = u129 at e
  generalize tm.getD 130 undef = u130 at e
  generalize tm.getD 131 undef = u131 at e
  generalize tm.getD 132 undef = u132 at e
  generalize tm.getD 133 undef = u133 at e
  generalize tm.getD 134 undef = u134 at e
  generalize tm.getD 135 undef = u135 at e
  generalize tm.getD 136 undef = u136 at e
  generalize tm.getD 137 undef = u137 at e
  generalize tm.getD 138 undef = u138 at e
  generalize tm.getD 139 undef = u139 at e
  generalize tm.getD 140 undef = u140 at e
  generalize tm.getD 141 undef = u141 at e
  generalize tm.getD 142 undef = u142 at e
  subst e
  simp only [List.drop_succ_cons, List.drop_zero]
  have S3 := Lib.hid (S0.out.below hb3)
  have C3 := Lib.hid (C0.out.below hb3)
  have B3 := bt B0 hb3
  clear hb3 B0 zS S0 C0 o_S_0 o_S_1 o_S_2 o_S_3 o_S_4 o_S_5 o_S_6
  have zS := S3.out.lt
  have o_S_0 := S3.out.c (i := 0) rfl
  have p_S_0 := S3.out.f 0
  have o_S_1 := S3.out.c (i := 1) rfl
  have p_S_1 := S3.out.f 1
  have o_S_2 := S3.out.c (i := 2) rfl
  have p_S_2 := S3.out.f 2
  have o_S_3 := S3.out.c (i := 3) rfl
  have p_S_3 := S3.out.f 3
  have o_S_4 := S3.out.c (i := 4) rfl
  have p_S_4 := S3.out.f 4
  have o_S_5 := S3.out.c (i := 5) rfl
  have p_S_5 := S3.out.f 5
  have o_S_6 := S3.out.c (i := 6) rfl
  have p_S_6 := S3.out.f 6
  go_upto_region 2 with fail
  clear zS o_S_0 p_S_0 o_S_1 p_S_1 o_S_2 p_S_2 o_S_3 p_S_3 o_S_4 p_S_4 o_S_5 p_S_5 o_S_6 p_S_6
  obtain ⟨w1, hw1⟩ : ∃ W, W = set7 W3 w.heap.size (.int .i64 f.self.id) (.slice AC f.self.costs.length cC) (.slice AU f.self.ups.length cU) (.slice AI f.self.infos.length cI) (.slice AS f.states.length cS) (.int .i64 f.mx) (.int .i64 f.dl) := ⟨_, rfl⟩
  have S := Lib.hid (show Bx w1 w.heap.size 29 #[.int .i64 f.self.id, .slice AC f.self.costs.length cC, .slice AU f.self.ups.length cU, .slice AI f.self.infos.length cI, .slice AS f.states.length cS, .int .i64 f.mx, .int .i64 f.dl] by rw [hw1]; exact set7_bx S3.out)
  have Cf := Lib.hid (show Bx w1 (w.heap.size + 1) 33 #[.int .i64 cv.r, .int .i64 cv.c, .int .i64 cv.b, .int .i64 cv.p, .int .i64 ca] by rw [hw1]; exact set7_oth C3.out (Nat.succ_ne_self _))
  have B1 : Below w.heap.size w w1 := by rw [hw1]; exact set7_bel B3 (Nat.le_refl _)
  unfold set7 at hw1
  rw [← hw1]
  clear hw1 S3 C3 B3
  have Fr := Lib.hid (hfr.below B1)
  have Mr := Lib.hid (show RowI w1 AL n cL M by rw [← hn.out]; exact hMr.below B1)
  have zS := S.out.lt
  clear hfr hMr
  go_wp2_with fail
  go_at_call 7
  (with_reducible refine (cN.out _ Mr.out).mono ?_)
  rintro e w2 ⟨ACn, cCn, AUn, cUn, AIn, cIn, ASn, cSn, rfl, trn, hb2, _⟩
  have S_w2 := Lib.hid (S.out.below hb2)
  have C_w2 := Lib.hid (Cf.out.below hb2)
  have F_w2 := Lib.hid (Fr.out.below hb2)
  have M_w2 := Lib.hid (Mr.out.below hb2)
  have Nt_w2 := Lib.hid (trn)
  have z0_w2 : w.heap.size < w2.heap.size := Nat.lt_of_lt_of_le zS hb2.size
  have B_w2 := bt B1 hb2
  clear S Cf Fr Mr zS B1 hb2
  clear trn cN
  go_upto_region 3 with fail
  obtain ⟨w3, hw3⟩ : ∃ W, W = w2.alloc (.cells #[.int .i64 nt.self.id, .slice ACn nt.self.costs.length cCn, .slice AUn nt.self.ups.length cUn, .slice AIn nt.self.infos.length cIn, .slice ASn nt.states.length cSn, .int .i64 nt.mx, .int .i64 nt.dl] 29) := ⟨_, rfl⟩
  have bw3 : Below w2.heap.size w2 w3 := by rw [hw3]; exact (Below.refl _ _).alloc (Nat.le_refl _) _
  have Xw3 : Bx w3 w2.heap.size 29 #[.int .i64 nt.self.id, .slice ACn nt.self.costs.length cCn, .slice AUn nt.self.ups.length cUn, .slice AIn nt.self.infos.length cIn, .slice ASn nt.states.length cSn, .int .i64 nt.mx, .int .i64 nt.dl] := by rw [hw3]; exact Bx.new _ _ _ rfl
  rw [← hw3]
  clear hw3
  have S_w3 := Lib.hid (S_w2.out.below bw3)
  have C_w3 := Lib.hid (C_w2.out.below bw3)
  have F_w3 := Lib.hid (F_w2.out.below bw3)
  have M_w3 := Lib.hid (M_w2.out.below bw3)
  have Nt_w3 := Lib.hid (Nt_w2.out.below bw3)
  have BA_w3 := Lib.hid (Xw3)
  have z0_w3 : w.heap.size < w3.heap.size := Nat.lt_of_lt_of_le z0_w2 bw3.size
  have B_w3 := bt B_w2 bw3
  clear S_w2 C_w2 F_w2 M_w2 Nt_w2 z0_w2 B_w2 bw3
  have z1_w3 : w2.heap.size < w3.heap.size := Xw3.lt
  clear Xw3
  have o_S_0 := S_w3.out.c (i := 0) rfl
  have o_S_1 := S_w3.out.c (i := 1) rfl
  have o_S_2 := S_w3.out.c (i := 2) rfl
  have o_S_3 := S_w3.out.c (i := 3) rfl
  have o_S_4 := S_w3.out.c (i := 4) rfl
  have o_S_5 := S_w3.out.c (i := 5) rfl
  have o_S_6 := S_w3.out.c (i := 6) rfl
  have o_C_0 := C_w3.out.c (i := 0) rfl
  have o_C_1 := C_w3.out.c (i := 1) rfl
  have o_C_2 := C_w3.out.c (i := 2) rfl
  have o_C_3 := C_w3.out.c (i := 3) rfl
  have o_C_4 := C_w3.out.c (i := 4) rfl
  go_wp2_with fail
  clear o_S_0 o_S_1 o_S_2 o_S_3 o_S_4 o_S_5 o_S_6 o_C_0 o_C_1 o_C_2 o_C_3 o_C_4
  go_at_call 8
  (with_reducible refine (cH.out _ F_w3.out).mono ?_)
  rintro e w4 ⟨ACh, cCh, AUh, cUh, AIh, cIh, ASh, cSh, rfl, trh, hb4, _⟩
  have S_w4 := Lib.hid (S_w3.out.below hb4)
  have C_w4 := Lib.hid (C_w3.out.below hb4)
  have F_w4 := Lib.hid (F_w3.out.below hb4)
  have M_w4 := Lib.hid (M_w3.out.below hb4)
  have Nt_w4 := Lib.hid (Nt_w3.out.below hb4)
  have BA_w4 := Lib.hid (BA_w3.out.below hb4)
  have Ht_w4 := Lib.hid (trh)
  have z0_w4 : w.heap.size < w4.heap.size := Nat.lt_of_lt_of_le z0_w3 hb4.size
  have z1_w4 : w2.heap.size < w4.heap.size := Nat.lt_of_lt_of_le z1_w3 hb4.size
  have B_w4 := bt B_w3 hb4
  clear S_w3 C_w3 F_w3 M_w3 Nt_w3 BA_w3 z0_w3 z1_w3 B_w3 hb4
  clear trh cH
  go_upto_region 4 with fail
  obtain ⟨w5, hw5⟩ : ∃ W, W = w4.alloc (.cells #[.int .i64 ht.self.id, .slice ACh ht.self.costs.length cCh, .slice AUh ht.self.ups.length cUh, .slice AIh ht.self.infos.length cIh, .slice ASh ht.states.length cSh, .int .i64 ht.mx, .int .i64 ht.dl] 29) := ⟨_, rfl⟩
  have bw5 : Below w4.heap.size w4 w5 := by rw [hw5]; exact (Below.refl _ _).alloc (Nat.le_refl _) _
  have Xw5 : Bx w5 w4.heap.size 29 #[.int .i64 ht.self.id, .slice ACh ht.self.costs.length cCh, .slice AUh ht.self.ups.length cUh, .slice AIh ht.self.infos.length cIh, .slice ASh ht.states.length cSh, .int .i64 ht.mx, .int .i64 ht.dl] := by rw [hw5]; exact Bx.new _ _ _ rfl
  rw [← hw5]
  clear hw5
  have S_w5 := Lib.hid (S_w4.out.below bw5)
  have C_w5 := Lib.hid (C_w4.out.below bw5)
  have F_w5 := Lib.hid (F_w4.out.below bw5)
  have M_w5 := Lib.hid (M_w4.out.below bw5)
  have Nt_w5 := Lib.hid (Nt_w4.out.below bw5)
  have BA_w5 := Lib.hid (BA_w4.out.below bw5)
  have Ht_w5 := Lib.hid (Ht_w4.out.below bw5)
  have BB_w5 := Lib.hid (Xw5)
  have z0_w5 : w.heap.size < w5.heap.size := Nat.lt_of_lt_of_le z0_w4 bw5.size
  have z1_w5 : w2.heap.size < w5.heap.size := Nat.lt_of_lt_of_le z1_w4 bw5.size
  have B_w5 := bt B_w4 bw5
  clear S_w4 C_w4 F_w4 M_w4 Nt_w4 BA_w4 Ht_w4 z0_w4 z1_w4 B_w4 bw5
  have z2_w5 : w4.heap.size < w5.heap.size := Xw5.lt
  clear Xw5
  go_upto_region 5 with fail
  obtain ⟨w6, hw6⟩ : ∃ W, W = w5.alloc (.cells #[.int .i64 0, .slice none 0 0, .slice none 0 0, .slice none 0 0, .slice none 0 0, .int .i64 0, .int .i64 0] 29) := ⟨_, rfl⟩
  have bw6 : Below w5.heap.size w5 w6 := by rw [hw6]; exact (Below.refl _ _).alloc (Nat.le_refl _) _
  have Xw6 : Bx w6 w5.heap.size 29 #[.int .i64 0, .slice none 0 0, .slice none 0 0, .slice none 0 0, .slice none 0 0, .int .i64 0, .int .i64 0] := by rw [hw6]; exact Bx.new _ _ _ rfl
  rw [← hw6]
  clear hw6
  have S_w6 := Lib.hid (S_w5.out.below bw6)
  have C_w6 := Lib.hid (C_w5.out.below bw6)
  have F_w6 := Lib.hid (F_w5.out.below bw6)
  have M_w6 := Lib.hid (M_w5.out.below bw6)
  have Nt_w6 := Lib.hid (Nt_w5.out.below bw6)
  have BA_w6 := Lib.hid (BA_w5.out.below bw6)
  have Ht_w6 := Lib.hid (Ht_w5.out.below bw6)
  have BB_w6 := Lib.hid (BB_w5.out.below bw6)
  have BZ_w6 := Lib.hid (Xw6)
  have z0_w6 : w.heap.size < w6.heap.size := Nat.lt_of_lt_of_le z0_w5 bw6.size
  have z1_w6 : w2.heap.size < w6.heap.size := Nat.lt_of_lt_of_le z1_w5 bw6.size
  have z2_w6 : w4.heap.size < w6.heap.size := Nat.lt_of_lt_of_le z2_w5 bw6.size
  have B_w6 := bt B_w5 bw6
  clear S_w5 C_w5 F_w5 M_w5 Nt_w5 BA_w5 Ht_w5 BB_w5 z0_w5 z1_w5 z2_w5 B_w5 bw6
  have z3_w6 : w5.heap.size < w6.heap.size := Xw6.lt
  clear Xw6
  obtain ⟨fo, hfo⟩ : ∃ b, f.ok = b := ⟨_, rfl⟩
  have cRi1 := Lib.hid (cRi.out fo hfo)
  have cRR1 := Lib.hid (cRR.out fo hfo)
  clear cRi cRR
  replace hfo := Lib.hid hfo
  have hbb := neq_bb fo
  have K_S_0 := cell_regrown (S_w6.out.c (i := 0) rfl)
  have K_S_1 := cell_regrown (S_w6.out.c (i := 1) rfl)
  have K_S_2 := cell_regrown (S_w6.out.c (i := 2) rfl)
  have K_S_3 := cell_regrown (S_w6.out.c (i := 3) rfl)
  have K_S_4 := cell_regrown (S_w6.out.c (i := 4) rfl)
  have K_S_5 := cell_regrown (S_w6.out.c (i := 5) rfl)
  have K_S_6 := cell_regrown (S_w6.out.c (i := 6) rfl)
  have cC0 := fun (d : Nat) (os : Array Obj) => Calls.regrown_of (cRi1.out (Go.Sort.grow (redrawn w6 d) os) (F_w6.out.below (below_regrown w6 d os)))
  have cC1 := fun (d : Nat) (os : Array Obj) => Calls.regrown_of (cRR1.out (Go.Sort.grow (redrawn w6 d) os) (F_w6.out.below (below_regrown w6 d os)))
  have cC2 := fun (d : Nat) (os : Array Obj) => Calls.regrown_of (cA.out (Go.Sort.grow (redrawn w6 d) os))
  refine wp_region_quiet_below (by kernel_rfl) (by kernel_rfl) ?_
  repeat (first | go_big_quiet_step (first | with_reducible exact cC0 _ _ | with_reducible exact cC1 _ _ | with_reducible exact cC2 _ _) | quiet_step (first | with_reducible exact cC0 _ _ | with_reducible exact cC1 _ _ | with_reducible exact cC2 _ _))
  refine wpQuiet_nil ?_
  intro _ hw'
  obtain ⟨⟨dq, osq⟩, hw''⟩ := hw'
  subst hw''
  have hqw7 := below_regrown w6 dq osq
  clear K_S_0 K_S_1 K_S_2 K_S_3 K_S_4 K_S_5 K_S_6 cC0 cC1 cC2
  generalize Go.Sort.grow (redrawn w6 dq) osq = w7 at *
  have S_w7 := Lib.hid (S_w6.out.below hqw7)
  have C_w7 := Lib.hid (C_w6.out.below hqw7)
  have F_w7 := Lib.hid (F_w6.out.below hqw7)
  have M_w7 := Lib.hid (M_w6.out.below hqw7)
  have Nt_w7 := Lib.hid (Nt_w6.out.below hqw7)
  have BA_w7 := Lib.hid (BA_w6.out.below hqw7)
  have Ht_w7 := Lib.hid (Ht_w6.out.below hqw7)
  have BB_w7 := Lib.hid (BB_w6.out.below hqw7)
  have BZ_w7 := Lib.hid (BZ_w6.out.below hqw7)
  have z0_w7 : w.heap.size < w7.heap.size := Nat.lt_of_lt_of_le z0_w6 hqw7.size
  have z1_w7 : w2.heap.size < w7.heap.size := Nat.lt_of_lt_of_le z1_w6 hqw7.size
  have z2_w7 : w4.heap.size < w7.heap.size := Nat.lt_of_lt_of_le z2_w6 hqw7.size
  have z3_w7 : w5.heap.size < w7.heap.size := Nat.lt_of_lt_of_le z3_w6 hqw7.size
  have B_w7 := bt B_w6 hqw7
  clear S_w6 C_w6 F_w6 M_w6 Nt_w6 BA_w6 Ht_w6 BB_w6 BZ_w6 z0_w6 z1_w6 z2_w6 z3_w6 B_w6 hqw7
  clear hbb
  go_wp2_with fail
  go_at_call 12
  (with_reducible refine (cRN.out _ M_w7.out).mono ?_)
  rintro e w8 ⟨ACx, cCx, AUx, cUx, AIx, cIx, ASx, cSx, rfl, trx, hb8, _⟩
  have S_w8 := Lib.hid (S_w7.out.below hb8)
  have C_w8 := Lib.hid (C_w7.out.below hb8)
  have F_w8 := Lib.hid (F_w7.out.below hb8)
  have M_w8 := Lib.hid (M_w7.out.below hb8)
  have Nt_w8 := Lib.hid (Nt_w7.out.below hb8)
  have BA_w8 := Lib.hid (BA_w7.out.below hb8)
  have Ht_w8 := Lib.hid (Ht_w7.out.below hb8)
  have BB_w8 := Lib.hid (BB_w7.out.below hb8)
  have BZ_w8 := Lib.hid (BZ_w7.out.below hb8)
  have Xt_w8 := Lib.hid (trx)
  have z0_w8 : w.heap.size < w8.heap.size := Nat.lt_of_lt_of_le z0_w7 hb8.size
  have z1_w8 : w2.heap.size < w8.heap.size := Nat.lt_of_lt_of_le z1_w7 hb8.size
  have z2_w8 : w4.heap.size < w8.heap.size := Nat.lt_of_lt_of_le z2_w7 hb8.size
  have z3_w8 : w5.heap.size < w8.heap.size := Nat.lt_of_lt_of_le z3_w7 hb8.size
  have B_w8 := bt B_w7 hb8
  clear S_w7 C_w7 F_w7 M_w7 Nt_w7 BA_w7 Ht_w7 BB_w7 BZ_w7 z0_w7 z1_w7 z2_w7 z3_w7 B_w7 hb8
  clear trx cRN
  go_upto_region 8 with fail
  obtain ⟨w9, hw9⟩ : ∃ W, W = w8.alloc (.cells #[.int .i64 nt.self.id, .slice ACx nt.self.costs.length cCx, .slice AUx nt.self.ups.length cUx, .slice AIx nt.self.infos.length cIx, .slice ASx nt.states.length cSx, .int .i64 nt.mx, .int .i64 nt.dl] 29) := ⟨_, rfl⟩
  have bw9 : Below w8.heap.size w8 w9 := by rw [hw9]; exact (Below.refl _ _).alloc (Nat.le_refl _) _
  have Xw9 : Bx w9 w8.heap.size 29 #[.int .i64 nt.self.id, .slice ACx nt.self.costs.length cCx, .slice AUx nt.self.ups.length cUx, .slice AIx nt.self.infos.length cIx, .slice ASx nt.states.length cSx, .int .i64 nt.mx, .int .i64 nt.dl] := by rw [hw9]; exact Bx.new _ _ _ rfl
  rw [← hw9]
  clear hw9
  have S_w9 := Lib.hid (S_w8.out.below bw9)
  have C_w9 := Lib.hid (C_w8.out.below bw9)
  have F_w9 := Lib.hid (F_w8.out.below bw9)
  have M_w9 := Lib.hid (M_w8.out.below bw9)
  have Nt_w9 := Lib.hid (Nt_w8.out.below bw9)
  have BA_w9 := Lib.hid (BA_w8.out.below bw9)
  have Ht_w9 := Lib.hid (Ht_w8.out.below bw9)
  have BB_w9 := Lib.hid (BB_w8.out.below bw9)
  have BZ_w9 := Lib.hid (BZ_w8.out.below bw9)
  have Xt_w9 := Lib.hid (Xt_w8.out.below bw9)
  have BX_w9 := Lib.hid (Xw9)
  have z0_w9 : w.heap.size < w9.heap.size := Nat.lt_of_lt_of_le z0_w8 bw9.size
  have z1_w9 : w2.heap.size < w9.heap.size := Nat.lt_of_lt_of_le z1_w8 bw9.size
  have z2_w9 : w4.heap.size < w9.heap.size := Nat.lt_of_lt_of_le z2_w8 bw9.size
  have z3_w9 : w5.heap.size < w9.heap.size := Nat.lt_of_lt_of_le z3_w8 bw9.size
  have B_w9 := bt B_w8 bw9
  clear S_w8 C_w8 F_w8 M_w8 Nt_w8 BA_w8 Ht_w8 BB_w8 BZ_w8 Xt_w8 z0_w8 z1_w8 z2_w8 z3_w8 B_w8 bw9
  have z4_w9 : w8.heap.size < w9.heap.size := Xw9.lt
  clear Xw9
  rcases hnw.out with ⟨rfl, rfl⟩ | ⟨rfl, rfl, rfl⟩
  · have o_BA_0 := BA_w9.out.c (i := 0) rfl
    have o_BA_1 := BA_w9.out.c (i := 1) rfl
    have o_BA_2 := BA_w9.out.c (i := 2) rfl
    have o_BA_3 := BA_w9.out.c (i := 3) rfl
    have o_BA_4 := BA_w9.out.c (i := 4) rfl
    have o_BA_5 := BA_w9.out.c (i := 5) rfl
    have o_BA_6 := BA_w9.out.c (i := 6) rfl
    have o_BX_0 := BX_w9.out.c (i := 0) rfl
    have o_BX_1 := BX_w9.out.c (i := 1) rfl
    have o_BX_2 := BX_w9.out.c (i := 2) rfl
    have o_BX_3 := BX_w9.out.c (i := 3) rfl
    have o_BX_4 := BX_w9.out.c (i := 4) rfl
    have o_BX_5 := BX_w9.out.c (i := 5) rfl
    have o_BX_6 := BX_w9.out.c (i := 6) rfl
    go_wp2_with fail
    clear o_BA_0 o_BA_1 o_BA_2 o_BA_3 o_BA_4 o_BA_5 o_BA_6 o_BX_0 o_BX_1 o_BX_2 o_BX_3 o_BX_4 o_BX_5 o_BX_6
    go_at_call 13
    (with_reducible refine (r12_same hnl Nt_w9.out Xt_w9.out).mono ?_)
    rintro e w10 ⟨rfl, hb10⟩
    have S_w10 := Lib.hid (S_w9.out.below hb10)
    have C_w10 := Lib.hid (C_w9.out.below hb10)
    have F_w10 := Lib.hid (F_w9.out.below hb10)
    have M_w10 := Lib.hid (M_w9.out.below hb10)
    have Nt_w10 := Lib.hid (Nt_w9.out.below hb10)
    have BA_w10 := Lib.hid (BA_w9.out.below hb10)
    have Ht_w10 := Lib.hid (Ht_w9.out.below hb10)
    have BB_w10 := Lib.hid (BB_w9.out.below hb10)
    have BZ_w10 := Lib.hid (BZ_w9.out.below hb10)
    have Xt_w10 := Lib.hid (Xt_w9.out.below hb10)
    have BX_w10 := Lib.hid (BX_w9.out.below hb10)
    have z0_w10 : w.heap.size < w10.heap.size := Nat.lt_of_lt_of_le z0_w9 hb10.size
    have z1_w10 : w2.heap.size < w10.heap.size := Nat.lt_of_lt_of_le z1_w9 hb10.size
    have z2_w10 : w4.heap.size < w10.heap.size := Nat.lt_of_lt_of_le z2_w9 hb10.size
    have z3_w10 : w5.heap.size < w10.heap.size := Nat.lt_of_lt_of_le z3_w9 hb10.size
    have z4_w10 : w8.heap.size < w10.heap.size := Nat.lt_of_lt_of_le z4_w9 hb10.size
    have B_w10 := bt B_w9 hb10
    clear S_w9 C_w9 F_w9 M_w9 Nt_w9 BA_w9 Ht_w9 BB_w9 BZ_w9 Xt_w9 BX_w9 z0_w9 z1_w9 z2_w9 z3_w9 z4_w9 B_w9 hb10
    rcases hhw.out with ⟨hk, rfl, rfl, rfl⟩ | ⟨hk, hpr, rfl, rfl, rfl⟩ | ⟨hk, hpr, hcf, rfl, rfl, rfl⟩ | ⟨k, rfl, hk, hkl, hcf, rfl, rfl, rfl⟩
    · obtain rfl : false = fo := by rw [← hfo.out, hk]
      replace hk := Lib.hid hk
      have o_S_0 := S_w10.out.c (i := 0) rfl
      have o_S_1 := S_w10.out.c (i := 1) rfl
      have o_S_2 := S_w10.out.c (i := 2) rfl
      have o_S_3 := S_w10.out.c (i := 3) rfl
      have o_S_4 := S_w10.out.c (i := 4) rfl
      have o_S_5 := S_w10.out.c (i := 5) rfl
      have o_S_6 := S_w10.out.c (i := 6) rfl
      go_wp2_with fail
      clear o_S_0 o_S_1 o_S_2 o_S_3 o_S_4 o_S_5 o_S_6
      go_at_call 10
      (with_reducible refine (cRR1.out _ F_w10.out).mono ?_)
      rintro e w11 ⟨rfl, hb11⟩
      have S_w11 := Lib.hid (S_w10.out.below hb11)
      have C_w11 := Lib.hid (C_w10.out.below hb11)
      have F_w11 := Lib.hid (F_w10.out.below hb11)
      have M_w11 := Lib.hid (M_w10.out.below hb11)
      have Nt_w11 := Lib.hid (Nt_w10.out.below hb11)
      have BA_w11 := Lib.hid (BA_w10.out.below hb11)
      have Ht_w11 := Lib.hid (Ht_w10.out.below hb11)
      have BB_w11 := Lib.hid (BB_w10.out.below hb11)
      have BZ_w11 := Lib.hid (BZ_w10.out.below hb11)
      have Xt_w11 := Lib.hid (Xt_w10.out.below hb11)
      have BX_w11 := Lib.hid (BX_w10.out.below hb11)
      have z0_w11 : w.heap.size < w11.heap.size := Nat.lt_of_lt_of_le z0_w10 hb11.size
      have z1_w11 : w2.heap.size < w11.heap.size := Nat.lt_of_lt_of_le z1_w10 hb11.size
      have z2_w11 : w4.heap.size < w11.heap.size := Nat.lt_of_lt_of_le z2_w10 hb11.size
      have z3_w11 : w5.heap.size < w11.heap.size := Nat.lt_of_lt_of_le z3_w10 hb11.size
      have z4_w11 : w8.heap.size < w11.heap.size := Nat.lt_of_lt_of_le z4_w10 hb11.size
      have B_w11 := bt B_w10 hb11
      clear S_w10 C_w10 F_w10 M_w10 Nt_w10 BA_w10 Ht_w10 BB_w10 BZ_w10 Xt_w10 BX_w10 z0_w10 z1_w10 z2_w10 z3_w10 z4_w10 B_w10 hb11
      have o_BB_0 := BB_w11.out.c (i := 0) rfl
      have o_BB_1 := BB_w11.out.c (i := 1) rfl
      have o_BB_2 := BB_w11.out.c (i := 2) rfl
      have o_BB_3 := BB_w11.out.c (i := 3) rfl
      have o_BB_4 := BB_w11.out.c (i := 4) rfl
      have o_BB_5 := BB_w11.out.c (i := 5) rfl
      have o_BB_6 := BB_w11.out.c (i := 6) rfl
      have o_BZ_0 := BZ_w11.out.c (i := 0) rfl
      have o_BZ_1 := BZ_w11.out.c (i := 1) rfl
      have o_BZ_2 := BZ_w11.out.c (i := 2) rfl
      have o_BZ_3 := BZ_w11.out.c (i := 3) rfl
      have o_BZ_4 := BZ_w11.out.c (i := 4) rfl
      have o_BZ_5 := BZ_w11.out.c (i := 5) rfl
      have o_BZ_6 := BZ_w11.out.c (i := 6) rfl
      go_wp2_with fail
      clear o_BB_0 o_BB_1 o_BB_2 o_BB_3 o_BB_4 o_BB_5 o_BB_6 o_BZ_0 o_BZ_1 o_BZ_2 o_BZ_3 o_BZ_4 o_BZ_5 o_BZ_6
      go_at_call 13
      (with_reducible refine (same_zero Ht_w11.out).mono ?_)
      rintro e w12 ⟨rfl, hb12⟩
      have S_w12 := Lib.hid (S_w11.out.below hb12)
      have C_w12 := Lib.hid (C_w11.out.below hb12)
      have F_w12 := Lib.hid (F_w11.out.below hb12)
      have M_w12 := Lib.hid (M_w11.out.below hb12)
      have Nt_w12 := Lib.hid (Nt_w11.out.below hb12)
      have BA_w12 := Lib.hid (BA_w11.out.below hb12)
      have Ht_w12 := Lib.hid (Ht_w11.out.below hb12)
      have BB_w12 := Lib.hid (BB_w11.out.below hb12)
      have BZ_w12 := Lib.hid (BZ_w11.out.below hb12)
      have Xt_w12 := Lib.hid (Xt_w11.out.below hb12)
      have BX_w12 := Lib.hid (BX_w11.out.below hb12)
      have z0_w12 : w.heap.size < w12.heap.size := Nat.lt_of_lt_of_le z0_w11 hb12.size
      have z1_w12 : w2.heap.size < w12.heap.size := Nat.lt_of_lt_of_le z1_w11 hb12.size
      have z2_w12 : w4.heap.size < w12.heap.size := Nat.lt_of_lt_of_le z2_w11 hb12.size
      have z3_w12 : w5.heap.size < w12.heap.size := Nat.lt_of_lt_of_le z3_w11 hb12.size
      have z4_w12 : w8.heap.size < w12.heap.size := Nat.lt_of_lt_of_le z4_w11 hb12.size
      have B_w12 := bt B_w11 hb12
      clear S_w11 C_w11 F_w11 M_w11 Nt_w11 BA_w11 Ht_w11 BB_w11 BZ_w11 Xt_w11 BX_w11 z0_w11 z1_w11 z2_w11 z3_w11 z4_w11 B_w11 hb12
      go_wp2_with fail
      go_ret
      exact ⟨rfl, B_w12⟩
    · obtain rfl : true = fo := by rw [← hfo.out, hk]
      replace hk := Lib.hid hk
      have o_S_0 := S_w10.out.c (i := 0) rfl
      have o_S_1 := S_w10.out.c (i := 1) rfl
      have o_S_2 := S_w10.out.c (i := 2) rfl
      have o_S_3 := S_w10.out.c (i := 3) rfl
      have o_S_4 := S_w10.out.c (i := 4) rfl
      have o_S_5 := S_w10.out.c (i := 5) rfl
      have o_S_6 := S_w10.out.c (i := 6) rfl
      go_wp2_with fail
      clear o_S_0 o_S_1 o_S_2 o_S_3 o_S_4 o_S_5 o_S_6
      go_at_call 10
      (with_reducible refine (cRR1.out _ F_w10.out).mono ?_)
      rintro e w11 ⟨rfl, hb11⟩
      have S_w11 := Lib.hid (S_w10.out.below hb11)
      have C_w11 := Lib.hid (C_w10.out.below hb11)
      have F_w11 := Lib.hid (F_w10.out.below hb11)
      have M_w11 := Lib.hid (M_w10.out.below hb11)
      have Nt_w11 := Lib.hid (Nt_w10.out.below hb11)
      have BA_w11 := Lib.hid (BA_w10.out.below hb11)
      have Ht_w11 := Lib.hid (Ht_w10.out.below hb11)
      have BB_w11 := Lib.hid (BB_w10.out.below hb11)
      have BZ_w11 := Lib.hid (BZ_w10.out.below hb11)
      have Xt_w11 := Lib.hid (Xt_w10.out.below hb11)
      have BX_w11 := Lib.hid (BX_w10.out.below hb11)
      have z0_w11 : w.heap.size < w11.heap.size := Nat.lt_of_lt_of_le z0_w10 hb11.size
      have z1_w11 : w2.heap.size < w11.heap.size := Nat.lt_of_lt_of_le z1_w10 hb11.size
      have z2_w11 : w4.heap.size < w11.heap.size := Nat.lt_of_lt_of_le z2_w10 hb11.size
      have z3_w11 : w5.heap.size < w11.heap.size := Nat.lt_of_lt_of_le z3_w10 hb11.size
      have z4_w11 : w8.heap.size < w11.heap.size := Nat.lt_of_lt_of_le z4_w10 hb11.size
      have B_w11 := bt B_w10 hb11
      clear S_w10 C_w10 F_w10 M_w10 Nt_w10 BA_w10 Ht_w10 BB_w10 BZ_w10 Xt_w10 BX_w10 z0_w10 z1_w10 z2_w10 z3_w10 z4_w10 B_w10 hb11
      by_cases hp0 : port < 0
      · replace hpr := Lib.hid hpr
        have o_S_0 := S_w11.out.c (i := 0) rfl
        have o_S_1 := S_w11.out.c (i := 1) rfl
        have o_S_2 := S_w11.out.c (i := 2) rfl
        have o_S_3 := S_w11.out.c (i := 3) rfl
        have o_S_4 := S_w11.out.c (i := 4) rfl
        have o_S_5 := S_w11.out.c (i := 5) rfl
        have o_S_6 := S_w11.out.c (i := 6) rfl
        have o_BB_0 := BB_w11.out.c (i := 0) rfl
        have o_BB_1 := BB_w11.out.c (i := 1) rfl
        have o_BB_2 := BB_w11.out.c (i := 2) rfl
        have o_BB_3 := BB_w11.out.c (i := 3) rfl
        have o_BB_4 := BB_w11.out.c (i := 4) rfl
        have o_BB_5 := BB_w11.out.c (i := 5) rfl
        have o_BB_6 := BB_w11.out.c (i := 6) rfl
        have o_BZ_0 := BZ_w11.out.c (i := 0) rfl
        have o_BZ_1 := BZ_w11.out.c (i := 1) rfl
        have o_BZ_2 := BZ_w11.out.c (i := 2) rfl
        have o_BZ_3 := BZ_w11.out.c (i := 3) rfl
        have o_BZ_4 := BZ_w11.out.c (i := 4) rfl
        have o_BZ_5 := BZ_w11.out.c (i := 5) rfl
        have o_BZ_6 := BZ_w11.out.c (i := 6) rfl
        go_wp2_with fail
        clear o_S_0 o_S_1 o_S_2 o_S_3 o_S_4 o_S_5 o_S_6 o_BB_0 o_BB_1 o_BB_2 o_BB_3 o_BB_4 o_BB_5 o_BB_6 o_BZ_0 o_BZ_1 o_BZ_2 o_BZ_3 o_BZ_4 o_BZ_5 o_BZ_6
        go_at_call 13
        (with_reducible refine (same_zero Ht_w11.out).mono ?_)
        rintro e w12 ⟨rfl, hb12⟩
        have S_w12 := Lib.hid (S_w11.out.below hb12)
        have C_w12 := Lib.hid (C_w11.out.below hb12)
        have F_w12 := Lib.hid (F_w11.out.below hb12)
        have M_w12 := Lib.hid (M_w11.out.below hb12)
        have Nt_w12 := Lib.hid (Nt_w11.out.below hb12)
        have BA_w12 := Lib.hid (BA_w11.out.below hb12)
        have Ht_w12 := Lib.hid (Ht_w11.out.below hb12)
        have BB_w12 := Lib.hid (BB_w11.out.below hb12)
        have BZ_w12 := Lib.hid (BZ_w11.out.below hb12)
        have Xt_w12 := Lib.hid (Xt_w11.out.below hb12)
        have BX_w12 := Lib.hid (BX_w11.out.below hb12)
        have z0_w12 : w.heap.size < w12.heap.size := Nat.lt_of_lt_of_le z0_w11 hb12.size
        have z1_w12 : w2.heap.size < w12.heap.size := Nat.lt_of_lt_of_le z1_w11 hb12.size
        have z2_w12 : w4.heap.size < w12.heap.size := Nat.lt_of_lt_of_le z2_w11 hb12.size
        have z3_w12 : w5.heap.size < w12.heap.size := Nat.lt_of_lt_of_le z3_w11 hb12.size
        have z4_w12 : w8.heap.size < w12.heap.size := Nat.lt_of_lt_of_le z4_w11 hb12.size
        have B_w12 := bt B_w11 hb12
        clear S_w11 C_w11 F_w11 M_w11 Nt_w11 BA_w11 Ht_w11 BB_w11 BZ_w11 Xt_w11 BX_w11 z0_w11 z1_w11 z2_w11 z3_w11 z4_w11 B_w11 hb12
        go_wp2_with fail
        go_ret
        exact ⟨rfl, B_w12⟩
      · have hp1 : (f.states.length : Int) ≤ port := by omega
        replace hpr := Lib.hid hpr
        have o_S_0 := S_w11.out.c (i := 0) rfl
        have o_S_1 := S_w11.out.c (i := 1) rfl
        have o_S_2 := S_w11.out.c (i := 2) rfl
        have o_S_3 := S_w11.out.c (i := 3) rfl
        have o_S_4 := S_w11.out.c (i := 4) rfl
        have o_S_5 := S_w11.out.c (i := 5) rfl
        have o_S_6 := S_w11.out.c (i := 6) rfl
        have o_BB_0 := BB_w11.out.c (i := 0) rfl
        have o_BB_1 := BB_w11.out.c (i := 1) rfl
        have o_BB_2 := BB_w11.out.c (i := 2) rfl
        have o_BB_3 := BB_w11.out.c (i := 3) rfl
        have o_BB_4 := BB_w11.out.c (i := 4) rfl
        have o_BB_5 := BB_w11.out.c (i := 5) rfl
        have o_BB_6 := BB_w11.out.c (i := 6) rfl
        have o_BZ_0 := BZ_w11.out.c (i := 0) rfl
        have o_BZ_1 := BZ_w11.out.c (i := 1) rfl
        have o_BZ_2 := BZ_w11.out.c (i := 2) rfl
        have o_BZ_3 := BZ_w11.out.c (i := 3) rfl
        have o_BZ_4 := BZ_w11.out.c (i := 4) rfl
        have o_BZ_5 := BZ_w11.out.c (i := 5) rfl
        have o_BZ_6 := BZ_w11.out.c (i := 6) rfl
        go_wp2_with fail
        clear o_S_0 o_S_1 o_S_2 o_S_3 o_S_4 o_S_5 o_S_6 o_BB_0 o_BB_1 o_BB_2 o_BB_3 o_BB_4 o_BB_5 o_BB_6 o_BZ_0 o_BZ_1 o_BZ_2 o_BZ_3 o_BZ_4 o_BZ_5 o_BZ_6
        go_at_call 13
        (with_reducible refine (same_zero Ht_w11.out).mono ?_)
        rintro e w12 ⟨rfl, hb12⟩
        have S_w12 := Lib.hid (S_w11.out.below hb12)
        have C_w12 := Lib.hid (C_w11.out.below hb12)
        have F_w12 := Lib.hid (F_w11.out.below hb12)
        have M_w12 := Lib.hid (M_w11.out.below hb12)
        have Nt_w12 := Lib.hid (Nt_w11.out.below hb12)
        have BA_w12 := Lib.hid (BA_w11.out.below hb12)
        have Ht_w12 := Lib.hid (Ht_w11.out.below hb12)
        have BB_w12 := Lib.hid (BB_w11.out.below hb12)
        have BZ_w12 := Lib.hid (BZ_w11.out.below hb12)
        have Xt_w12 := Lib.hid (Xt_w11.out.below hb12)
        have BX_w12 := Lib.hid (BX_w11.out.below hb12)
        have z0_w12 : w.heap.size < w12.heap.size := Nat.lt_of_lt_of_le z0_w11 hb12.size
        have z1_w12 : w2.heap.size < w12.heap.size := Nat.lt_of_lt_of_le z1_w11 hb12.size
        have z2_w12 : w4.heap.size < w12.heap.size := Nat.lt_of_lt_of_le z2_w11 hb12.size
        have z3_w12 : w5.heap.size < w12.heap.size := Nat.lt_of_lt_of_le z3_w11 hb12.size
        have z4_w12 : w8.heap.size < w12.heap.size := Nat.lt_of_lt_of_le z4_w11 hb12.size
        have B_w12 := bt B_w11 hb12
        clear S_w11 C_w11 F_w11 M_w11 Nt_w11 BA_w11 Ht_w11 BB_w11 BZ_w11 Xt_w11 BX_w11 z0_w11 z1_w11 z2_w11 z3_w11 z4_w11 B_w11 hb12
        go_wp2_with fail
        go_ret
        exact ⟨rfl, B_w12⟩
    · obtain rfl : true = fo := by rw [← hfo.out, hk]
      replace hk := Lib.hid hk
      have hp0 : ¬ port < 0 := by omega
      have hp1 : ¬ (f.states.length : Int) ≤ port := by omega
      clear hpr
      have o_S_0 := S_w10.out.c (i := 0) rfl
      have o_S_1 := S_w10.out.c (i := 1) rfl
      have o_S_2 := S_w10.out.c (i := 2) rfl
      have o_S_3 := S_w10.out.c (i := 3) rfl
      have o_S_4 := S_w10.out.c (i := 4) rfl
      have o_S_5 := S_w10.out.c (i := 5) rfl
      have o_S_6 := S_w10.out.c (i := 6) rfl
      go_wp2_with fail
      clear o_S_0 o_S_1 o_S_2 o_S_3 o_S_4 o_S_5 o_S_6
      go_at_call 10
      (with_reducible refine (cRR1.out _ F_w10.out).mono ?_)
      rintro e w11 ⟨rfl, hb11⟩
      have S_w11 := Lib.hid (S_w10.out.below hb11)
      have C_w11 := Lib.hid (C_w10.out.below hb11)
      have F_w11 := Lib.hid (F_w10.out.below hb11)
      have M_w11 := Lib.hid (M_w10.out.below hb11)
      have Nt_w11 := Lib.hid (Nt_w10.out.below hb11)
      have BA_w11 := Lib.hid (BA_w10.out.below hb11)
      have Ht_w11 := Lib.hid (Ht_w10.out.below hb11)
      have BB_w11 := Lib.hid (BB_w10.out.below hb11)
      have BZ_w11 := Lib.hid (BZ_w10.out.below hb11)
      have Xt_w11 := Lib.hid (Xt_w10.out.below hb11)
      have BX_w11 := Lib.hid (BX_w10.out.below hb11)
      have z0_w11 : w.heap.size < w11.heap.size := Nat.lt_of_lt_of_le z0_w10 hb11.size
      have z1_w11 : w2.heap.size < w11.heap.size := Nat.lt_of_lt_of_le z1_w10 hb11.size
      have z2_w11 : w4.heap.size < w11.heap.size := Nat.lt_of_lt_of_le z2_w10 hb11.size
      have z3_w11 : w5.heap.size < w11.heap.size := Nat.lt_of_lt_of_le z3_w10 hb11.size
      have z4_w11 : w8.heap.size < w11.heap.size := Nat.lt_of_lt_of_le z4_w10 hb11.size
      have B_w11 := bt B_w10 hb11
      clear S_w10 C_w10 F_w10 M_w10 Nt_w10 BA_w10 Ht_w10 BB_w10 BZ_w10 Xt_w10 BX_w10 z0_w10 z1_w10 z2_w10 z3_w10 z4_w10 B_w10 hb11
      have o_S_0 := S_w11.out.c (i := 0) rfl
      have o_S_1 := S_w11.out.c (i := 1) rfl
      have o_S_2 := S_w11.out.c (i := 2) rfl
      have o_S_3 := S_w11.out.c (i := 3) rfl
      have o_S_4 := S_w11.out.c (i := 4) rfl
      have o_S_5 := S_w11.out.c (i := 5) rfl
      have o_S_6 := S_w11.out.c (i := 6) rfl
      have o_C_0 := C_w11.out.c (i := 0) rfl
      have o_C_1 := C_w11.out.c (i := 1) rfl
      have o_C_2 := C_w11.out.c (i := 2) rfl
      have o_C_3 := C_w11.out.c (i := 3) rfl
      have o_C_4 := C_w11.out.c (i := 4) rfl
      go_wp2_with fail
      clear o_S_0 o_S_1 o_S_2 o_S_3 o_S_4 o_S_5 o_S_6 o_C_0 o_C_1 o_C_2 o_C_3 o_C_4
      go_at_call 14
      (with_reducible refine (cfg_to hcf _).mono ?_)
      rintro e w12 ⟨rfl, hb12⟩
      have S_w12 := Lib.hid (S_w11.out.below hb12)
      have C_w12 := Lib.hid (C_w11.out.below hb12)
      have F_w12 := Lib.hid (F_w11.out.below hb12)
      have M_w12 := Lib.hid (M_w11.out.below hb12)
      have Nt_w12 := Lib.hid (Nt_w11.out.below hb12)
      have BA_w12 := Lib.hid (BA_w11.out.below hb12)
      have Ht_w12 := Lib.hid (Ht_w11.out.below hb12)
      have BB_w12 := Lib.hid (BB_w11.out.below hb12)
      have BZ_w12 := Lib.hid (BZ_w11.out.below hb12)
      have Xt_w12 := Lib.hid (Xt_w11.out.below hb12)
      have BX_w12 := Lib.hid (BX_w11.out.below hb12)
      have z0_w12 : w.heap.size < w12.heap.size := Nat.lt_of_lt_of_le z0_w11 hb12.size
      have z1_w12 : w2.heap.size < w12.heap.size := Nat.lt_of_lt_of_le z1_w11 hb12.size
      have z2_w12 : w4.heap.size < w12.heap.size := Nat.lt_of_lt_of_le z2_w11 hb12.size
      have z3_w12 : w5.heap.size < w12.heap.size := Nat.lt_of_lt_of_le z3_w11 hb12.size
      have z4_w12 : w8.heap.size < w12.heap.size := Nat.lt_of_lt_of_le z4_w11 hb12.size
      have B_w12 := bt B_w11 hb12
      clear S_w11 C_w11 F_w11 M_w11 Nt_w11 BA_w11 Ht_w11 BB_w11 BZ_w11 Xt_w11 BX_w11 z0_w11 z1_w11 z2_w11 z3_w11 z4_w11 B_w11 hb12
      replace hcf := Lib.hid hcf
      have o_BB_0 := BB_w12.out.c (i := 0) rfl
      have o_BB_1 := BB_w12.out.c (i := 1) rfl
      have o_BB_2 := BB_w12.out.c (i := 2) rfl
      have o_BB_3 := BB_w12.out.c (i := 3) rfl
      have o_BB_4 := BB_w12.out.c (i := 4) rfl
      have o_BB_5 := BB_w12.out.c (i := 5) rfl
      have o_BB_6 := BB_w12.out.c (i := 6) rfl
      have o_BZ_0 := BZ_w12.out.c (i := 0) rfl
      have o_BZ_1 := BZ_w12.out.c (i := 1) rfl
      have o_BZ_2 := BZ_w12.out.c (i := 2) rfl
      have o_BZ_3 := BZ_w12.out.c (i := 3) rfl
      have o_BZ_4 := BZ_w12.out.c (i := 4) rfl
      have o_BZ_5 := BZ_w12.out.c (i := 5) rfl
      have o_BZ_6 := BZ_w12.out.c (i := 6) rfl
      go_wp2_with fail
      clear o_BB_0 o_BB_1 o_BB_2 o_BB_3 o_BB_4 o_BB_5 o_BB_6 o_BZ_0 o_BZ_1 o_BZ_2 o_BZ_3 o_BZ_4 o_BZ_5 o_BZ_6
      go_at_call 13
      (with_reducible refine (same_zero Ht_w12.out).mono ?_)
      rintro e w13 ⟨rfl, hb13⟩
      have S_w13 := Lib.hid (S_w12.out.below hb13)
      have C_w13 := Lib.hid (C_w12.out.below hb13)
      have F_w13 := Lib.hid (F_w12.out.below hb13)
      have M_w13 := Lib.hid (M_w12.out.below hb13)
      have Nt_w13 := Lib.hid (Nt_w12.out.below hb13)
      have BA_w13 := Lib.hid (BA_w12.out.below hb13)
      have Ht_w13 := Lib.hid (Ht_w12.out.below hb13)
      have BB_w13 := Lib.hid (BB_w12.out.below hb13)
      have BZ_w13 := Lib.hid (BZ_w12.out.below hb13)
      have Xt_w13 := Lib.hid (Xt_w12.out.below hb13)
      have BX_w13 := Lib.hid (BX_w12.out.below hb13)
      have z0_w13 : w.heap.size < w13.heap.size := Nat.lt_of_lt_of_le z0_w12 hb13.size
      have z1_w13 : w2.heap.size < w13.heap.size := Nat.lt_of_lt_of_le z1_w12 hb13.size
      have z2_w13 : w4.heap.size < w13.heap.size := Nat.lt_of_lt_of_le z2_w12 hb13.size
      have z3_w13 : w5.heap.size < w13.heap.size := Nat.lt_of_lt_of_le z3_w12 hb13.size
      have z4_w13 : w8.heap.size < w13.heap.size := Nat.lt_of_lt_of_le z4_w12 hb13.size
      have B_w13 := bt B_w12 hb13
      clear S_w12 C_w12 F_w12 M_w12 Nt_w12 BA_w12 Ht_w12 BB_w12 BZ_w12 Xt_w12 BX_w12 z0_w12 z1_w12 z2_w12 z3_w12 z4_w12 B_w12 hb13
      go_wp2_with fail
      go_ret
      exact ⟨rfl, B_w13⟩
    · obtain rfl : true = fo := by rw [← hfo.out, hk]
      have hp0 : ¬ (k : Int) < 0 := by omega
      have hp1 : ¬ (f.states.length : Int) ≤ (k : Int) := by omega
      obtain ⟨cf1, cf2, cf3⟩ := cfg_iff hcf
      have cRH := Lib.hid fun (W : World) (h : TreeR W f AC cC AU cU AI cI AS cS) => r_hear (w := W) hk hkl cf1 cf2 cf3 h
      replace hk := Lib.hid hk
      replace hkl := Lib.hid hkl
      clear cf1 cf2 cf3
      have o_S_0 := S_w10.out.c (i := 0) rfl
      have o_S_1 := S_w10.out.c (i := 1) rfl
      have o_S_2 := S_w10.out.c (i := 2) rfl
      have o_S_3 := S_w10.out.c (i := 3) rfl
      have o_S_4 := S_w10.out.c (i := 4) rfl
      have o_S_5 := S_w10.out.c (i := 5) rfl
      have o_S_6 := S_w10.out.c (i := 6) rfl
      go_wp2_with fail
      clear o_S_0 o_S_1 o_S_2 o_S_3 o_S_4 o_S_5 o_S_6
      go_at_call 10
      (with_reducible refine (cRR1.out _ F_w10.out).mono ?_)
      rintro e w11 ⟨rfl, hb11⟩
      have S_w11 := Lib.hid (S_w10.out.below hb11)
      have C_w11 := Lib.hid (C_w10.out.below hb11)
      have F_w11 := Lib.hid (F_w10.out.below hb11)
      have M_w11 := Lib.hid (M_w10.out.below hb11)
      have Nt_w11 := Lib.hid (Nt_w10.out.below hb11)
      have BA_w11 := Lib.hid (BA_w10.out.below hb11)
      have Ht_w11 := Lib.hid (Ht_w10.out.below hb11)
      have BB_w11 := Lib.hid (BB_w10.out.below hb11)
      have BZ_w11 := Lib.hid (BZ_w10.out.below hb11)
      have Xt_w11 := Lib.hid (Xt_w10.out.below hb11)
      have BX_w11 := Lib.hid (BX_w10.out.below hb11)
      have z0_w11 : w.heap.size < w11.heap.size := Nat.lt_of_lt_of_le z0_w10 hb11.size
      have z1_w11 : w2.heap.size < w11.heap.size := Nat.lt_of_lt_of_le z1_w10 hb11.size
      have z2_w11 : w4.heap.size < w11.heap.size := Nat.lt_of_lt_of_le z2_w10 hb11.size
      have z3_w11 : w5.heap.size < w11.heap.size := Nat.lt_of_lt_of_le z3_w10 hb11.size
      have z4_w11 : w8.heap.size < w11.heap.size := Nat.lt_of_lt_of_le z4_w10 hb11.size
      have B_w11 := bt B_w10 hb11
      clear S_w10 C_w10 F_w10 M_w10 Nt_w10 BA_w10 Ht_w10 BB_w10 BZ_w10 Xt_w10 BX_w10 z0_w10 z1_w10 z2_w10 z3_w10 z4_w10 B_w10 hb11
      have o_S_0 := S_w11.out.c (i := 0) rfl
      have o_S_1 := S_w11.out.c (i := 1) rfl
      have o_S_2 := S_w11.out.c (i := 2) rfl
      have o_S_3 := S_w11.out.c (i := 3) rfl
      have o_S_4 := S_w11.out.c (i := 4) rfl
      have o_S_5 := S_w11.out.c (i := 5) rfl
      have o_S_6 := S_w11.out.c (i := 6) rfl
      have o_C_0 := C_w11.out.c (i := 0) rfl
      have o_C_1 := C_w11.out.c (i := 1) rfl
      have o_C_2 := C_w11.out.c (i := 2) rfl
      have o_C_3 := C_w11.out.c (i := 3) rfl
      have o_C_4 := C_w11.out.c (i := 4) rfl
      go_wp2_with fail
      clear o_S_0 o_S_1 o_S_2 o_S_3 o_S_4 o_S_5 o_S_6 o_C_0 o_C_1 o_C_2 o_C_3 o_C_4
      go_at_call 14
      (with_reducible refine (cfg_to hcf _).mono ?_)
      rintro e w12 ⟨rfl, hb12⟩
      have S_w12 := Lib.hid (S_w11.out.below hb12)
      have C_w12 := Lib.hid (C_w11.out.below hb12)
      have F_w12 := Lib.hid (F_w11.out.below hb12)
      have M_w12 := Lib.hid (M_w11.out.below hb12)
      have Nt_w12 := Lib.hid (Nt_w11.out.below hb12)
      have BA_w12 := Lib.hid (BA_w11.out.below hb12)
      have Ht_w12 := Lib.hid (Ht_w11.out.below hb12)
      have BB_w12 := Lib.hid (BB_w11.out.below hb12)
      have BZ_w12 := Lib.hid (BZ_w11.out.below hb12)
      have Xt_w12 := Lib.hid (Xt_w11.out.below hb12)
      have BX_w12 := Lib.hid (BX_w11.out.below hb12)
      have z0_w12 : w.heap.size < w12.heap.size := Nat.lt_of_lt_of_le z0_w11 hb12.size
      have z1_w12 : w2.heap.size < w12.heap.size := Nat.lt_of_lt_of_le z1_w11 hb12.size
      have z2_w12 : w4.heap.size < w12.heap.size := Nat.lt_of_lt_of_le z2_w11 hb12.size
      have z3_w12 : w5.heap.size < w12.heap.size := Nat.lt_of_lt_of_le z3_w11 hb12.size
      have z4_w12 : w8.heap.size < w12.heap.size := Nat.lt_of_lt_of_le z4_w11 hb12.size
      have B_w12 := bt B_w11 hb12
      clear S_w11 C_w11 F_w11 M_w11 Nt_w11 BA_w11 Ht_w11 BB_w11 BZ_w11 Xt_w11 BX_w11 z0_w11 z1_w11 z2_w11 z3_w11 z4_w11 B_w11 hb12
      replace hcf := Lib.hid hcf
      clear hp0 hp1
      skip
      have o_S_0 := S_w12.out.c (i := 0) rfl
      have o_S_1 := S_w12.out.c (i := 1) rfl
      have o_S_2 := S_w12.out.c (i := 2) rfl
      have o_S_3 := S_w12.out.c (i := 3) rfl
      have o_S_4 := S_w12.out.c (i := 4) rfl
      have o_S_5 := S_w12.out.c (i := 5) rfl
      have o_S_6 := S_w12.out.c (i := 6) rfl
      have o_C_0 := C_w12.out.c (i := 0) rfl
      have o_C_1 := C_w12.out.c (i := 1) rfl
      have o_C_2 := C_w12.out.c (i := 2) rfl
      have o_C_3 := C_w12.out.c (i := 3) rfl
      have o_C_4 := C_w12.out.c (i := 4) rfl
      go_wp2_with fail
      clear o_S_0 o_S_1 o_S_2 o_S_3 o_S_4 o_S_5 o_S_6 o_C_0 o_C_1 o_C_2 o_C_3 o_C_4
      go_at_call 15
      (with_reducible refine (cRH.out _ F_w12.out).mono ?_)
      rintro e w13 ⟨ACy, cCy, AUy, cUy, AIy, cIy, ASy, cSy, rfl, try_, hb13, _⟩
      have S_w13 := Lib.hid (S_w12.out.below hb13)
      have C_w13 := Lib.hid (C_w12.out.below hb13)
      have F_w13 := Lib.hid (F_w12.out.below hb13)
      have M_w13 := Lib.hid (M_w12.out.below hb13)
      have Nt_w13 := Lib.hid (Nt_w12.out.below hb13)
      have BA_w13 := Lib.hid (BA_w12.out.below hb13)
      have Ht_w13 := Lib.hid (Ht_w12.out.below hb13)
      have BB_w13 := Lib.hid (BB_w12.out.below hb13)
      have BZ_w13 := Lib.hid (BZ_w12.out.below hb13)
      have Xt_w13 := Lib.hid (Xt_w12.out.below hb13)
      have BX_w13 := Lib.hid (BX_w12.out.below hb13)
      have Yt_w13 := Lib.hid (try_)
      have z0_w13 : w.heap.size < w13.heap.size := Nat.lt_of_lt_of_le z0_w12 hb13.size
      have z1_w13 : w2.heap.size < w13.heap.size := Nat.lt_of_lt_of_le z1_w12 hb13.size
      have z2_w13 : w4.heap.size < w13.heap.size := Nat.lt_of_lt_of_le z2_w12 hb13.size
      have z3_w13 : w5.heap.size < w13.heap.size := Nat.lt_of_lt_of_le z3_w12 hb13.size
      have z4_w13 : w8.heap.size < w13.heap.size := Nat.lt_of_lt_of_le z4_w12 hb13.size
      have B_w13 := bt B_w12 hb13
      clear S_w12 C_w12 F_w12 M_w12 Nt_w12 BA_w12 Ht_w12 BB_w12 BZ_w12 Xt_w12 BX_w12 z0_w12 z1_w12 z2_w12 z3_w12 z4_w12 B_w12 hb13
      clear try_
      go_upto_region 20 with fail
      obtain ⟨w14, hw14⟩ : ∃ W, W = w13.alloc (.cells #[.int .i64 (f.hear k cv ca).self.id, .slice ACy (f.hear k cv ca).self.costs.length cCy, .slice AUy (f.hear k cv ca).self.ups.length cUy, .slice AIy (f.hear k cv ca).self.infos.length cIy, .slice ASy (f.hear k cv ca).states.length cSy, .int .i64 (f.hear k cv ca).mx, .int .i64 (f.hear k cv ca).dl] 29) := ⟨_, rfl⟩
      have bw14 : Below w13.heap.size w13 w14 := by rw [hw14]; exact (Below.refl _ _).alloc (Nat.le_refl _) _
      have Xw14 : Bx w14 w13.heap.size 29 #[.int .i64 (f.hear k cv ca).self.id, .slice ACy (f.hear k cv ca).self.costs.length cCy, .slice AUy (f.hear k cv ca).self.ups.length cUy, .slice AIy (f.hear k cv ca).self.infos.length cIy, .slice ASy (f.hear k cv ca).states.length cSy, .int .i64 (f.hear k cv ca).mx, .int .i64 (f.hear k cv ca).dl] := by rw [hw14]; exact Bx.new _ _ _ rfl
      rw [← hw14]
      clear hw14
      have S_w14 := Lib.hid (S_w13.out.below bw14)
      have C_w14 := Lib.hid (C_w13.out.below bw14)
      have F_w14 := Lib.hid (F_w13.out.below bw14)
      have M_w14 := Lib.hid (M_w13.out.below bw14)
      have Nt_w14 := Lib.hid (Nt_w13.out.below bw14)
      have BA_w14 := Lib.hid (BA_w13.out.below bw14)
      have Ht_w14 := Lib.hid (Ht_w13.out.below bw14)
      have BB_w14 := Lib.hid (BB_w13.out.below bw14)
      have BZ_w14 := Lib.hid (BZ_w13.out.below bw14)
      have Xt_w14 := Lib.hid (Xt_w13.out.below bw14)
      have BX_w14 := Lib.hid (BX_w13.out.below bw14)
      have Yt_w14 := Lib.hid (Yt_w13.out.below bw14)
      have BY_w14 := Lib.hid (Xw14)
      have z0_w14 : w.heap.size < w14.heap.size := Nat.lt_of_lt_of_le z0_w13 bw14.size
      have z1_w14 : w2.heap.size < w14.heap.size := Nat.lt_of_lt_of_le z1_w13 bw14.size
      have z2_w14 : w4.heap.size < w14.heap.size := Nat.lt_of_lt_of_le z2_w13 bw14.size
      have z3_w14 : w5.heap.size < w14.heap.size := Nat.lt_of_lt_of_le z3_w13 bw14.size
      have z4_w14 : w8.heap.size < w14.heap.size := Nat.lt_of_lt_of_le z4_w13 bw14.size
      have B_w14 := bt B_w13 bw14
      clear S_w13 C_w13 F_w13 M_w13 Nt_w13 BA_w13 Ht_w13 BB_w13 BZ_w13 Xt_w13 BX_w13 Yt_w13 z0_w13 z1_w13 z2_w13 z3_w13 z4_w13 B_w13 bw14
      have z5_w14 : w13.heap.size < w14.heap.size := Xw14.lt
      clear Xw14
      have hbb : (f.hears k cv ca == f.hears k cv ca) = true := beq_self_eq_true _
      have o_BB_0 := BB_w14.out.c (i := 0) rfl
      have o_BB_1 := BB_w14.out.c (i := 1) rfl
      have o_BB_2 := BB_w14.out.c (i := 2) rfl
      have o_BB_3 := BB_w14.out.c (i := 3) rfl
      have o_BB_4 := BB_w14.out.c (i := 4) rfl
      have o_BB_5 := BB_w14.out.c (i := 5) rfl
      have o_BB_6 := BB_w14.out.c (i := 6) rfl
      have o_BY_0 := BY_w14.out.c (i := 0) rfl
      have o_BY_1 := BY_w14.out.c (i := 1) rfl
      have o_BY_2 := BY_w14.out.c (i := 2) rfl
      have o_BY_3 := BY_w14.out.c (i := 3) rfl
      have o_BY_4 := BY_w14.out.c (i := 4) rfl
      have o_BY_5 := BY_w14.out.c (i := 5) rfl
      have o_BY_6 := BY_w14.out.c (i := 6) rfl
      go_wp2_with fail
      clear o_BB_0 o_BB_1 o_BB_2 o_BB_3 o_BB_4 o_BB_5 o_BB_6 o_BY_0 o_BY_1 o_BY_2 o_BY_3 o_BY_4 o_BY_5 o_BY_6
      go_at_call 13
      (with_reducible refine (r12_same hhl Ht_w14.out Yt_w14.out).mono ?_)
      rintro e w15 ⟨rfl, hb15⟩
      have S_w15 := Lib.hid (S_w14.out.below hb15)
      have C_w15 := Lib.hid (C_w14.out.below hb15)
      have F_w15 := Lib.hid (F_w14.out.below hb15)
      have M_w15 := Lib.hid (M_w14.out.below hb15)
      have Nt_w15 := Lib.hid (Nt_w14.out.below hb15)
      have BA_w15 := Lib.hid (BA_w14.out.below hb15)
      have Ht_w15 := Lib.hid (Ht_w14.out.below hb15)
      have BB_w15 := Lib.hid (BB_w14.out.below hb15)
      have BZ_w15 := Lib.hid (BZ_w14.out.below hb15)
      have Xt_w15 := Lib.hid (Xt_w14.out.below hb15)
      have BX_w15 := Lib.hid (BX_w14.out.below hb15)
      have Yt_w15 := Lib.hid (Yt_w14.out.below hb15)
      have BY_w15 := Lib.hid (BY_w14.out.below hb15)
      have z0_w15 : w.heap.size < w15.heap.size := Nat.lt_of_lt_of_le z0_w14 hb15.size
      have z1_w15 : w2.heap.size < w15.heap.size := Nat.lt_of_lt_of_le z1_w14 hb15.size
      have z2_w15 : w4.heap.size < w15.heap.size := Nat.lt_of_lt_of_le z2_w14 hb15.size
      have z3_w15 : w5.heap.size < w15.heap.size := Nat.lt_of_lt_of_le z3_w14 hb15.size
      have z4_w15 : w8.heap.size < w15.heap.size := Nat.lt_of_lt_of_le z4_w14 hb15.size
      have z5_w15 : w13.heap.size < w15.heap.size := Nat.lt_of_lt_of_le z5_w14 hb15.size
      have B_w15 := bt B_w14 hb15
      clear S_w14 C_w14 F_w14 M_w14 Nt_w14 BA_w14 Ht_w14 BB_w14 BZ_w14 Xt_w14 BX_w14 Yt_w14 BY_w14 z0_w14 z1_w14 z2_w14 z3_w14 z4_w14 z5_w14 B_w14 hb15
      go_wp2_with fail
      go_ret
      exact ⟨rfl, B_w15⟩
  · have o_BA_0 := BA_w9.out.c (i := 0) rfl
    have o_BA_1 := BA_w9.out.c (i := 1) rfl
    have o_BA_2 := BA_w9.out.c (i := 2) rfl
    have o_BA_3 := BA_w9.out.c (i := 3) rfl
    have o_BA_4 := BA_w9.out.c (i := 4) rfl
    have o_BA_5 := BA_w9.out.c (i := 5) rfl
    have o_BA_6 := BA_w9.out.c (i := 6) rfl
    have o_BZ_0 := BZ_w9.out.c (i := 0) rfl
    have o_BZ_1 := BZ_w9.out.c (i := 1) rfl
    have o_BZ_2 := BZ_w9.out.c (i := 2) rfl
    have o_BZ_3 := BZ_w9.out.c (i := 3) rfl
    have o_BZ_4 := BZ_w9.out.c (i := 4) rfl
    have o_BZ_5 := BZ_w9.out.c (i := 5) rfl
    have o_BZ_6 := BZ_w9.out.c (i := 6) rfl
    go_wp2_with fail
    clear o_BA_0 o_BA_1 o_BA_2 o_BA_3 o_BA_4 o_BA_5 o_BA_6 o_BZ_0 o_BZ_1 o_BZ_2 o_BZ_3 o_BZ_4 o_BZ_5 o_BZ_6
    go_at_call 13
    (with_reducible refine (same_zero Nt_w9.out).mono ?_)
    rintro e w10 ⟨rfl, hb10⟩
    have S_w10 := Lib.hid (S_w9.out.below hb10)
    have C_w10 := Lib.hid (C_w9.out.below hb10)
    have F_w10 := Lib.hid (F_w9.out.below hb10)
    have M_w10 := Lib.hid (M_w9.out.below hb10)
    have Nt_w10 := Lib.hid (Nt_w9.out.below hb10)
    have BA_w10 := Lib.hid (BA_w9.out.below hb10)
    have Ht_w10 := Lib.hid (Ht_w9.out.below hb10)
    have BB_w10 := Lib.hid (BB_w9.out.below hb10)
    have BZ_w10 := Lib.hid (BZ_w9.out.below hb10)
    have Xt_w10 := Lib.hid (Xt_w9.out.below hb10)
    have BX_w10 := Lib.hid (BX_w9.out.below hb10)
    have z0_w10 : w.heap.size < w10.heap.size := Nat.lt_of_lt_of_le z0_w9 hb10.size
    have z1_w10 : w2.heap.size < w10.heap.size := Nat.lt_of_lt_of_le z1_w9 hb10.size
    have z2_w10 : w4.heap.size < w10.heap.size := Nat.lt_of_lt_of_le z2_w9 hb10.size
    have z3_w10 : w5.heap.size < w10.heap.size := Nat.lt_of_lt_of_le z3_w9 hb10.size
    have z4_w10 : w8.heap.size < w10.heap.size := Nat.lt_of_lt_of_le z4_w9 hb10.size
    have B_w10 := bt B_w9 hb10
    clear S_w9 C_w9 F_w9 M_w9 Nt_w9 BA_w9 Ht_w9 BB_w9 BZ_w9 Xt_w9 BX_w9 z0_w9 z1_w9 z2_w9 z3_w9 z4_w9 B_w9 hb10
    rcases hhw.out with ⟨hk, rfl, rfl, rfl⟩ | ⟨hk, hpr, rfl, rfl, rfl⟩ | ⟨hk, hpr, hcf, rfl, rfl, rfl⟩ | ⟨k, rfl, hk, hkl, hcf, rfl, rfl, rfl⟩
    · obtain rfl : false = fo := by rw [← hfo.out, hk]
      replace hk := Lib.hid hk
      have o_S_0 := S_w10.out.c (i := 0) rfl
      have o_S_1 := S_w10.out.c (i := 1) rfl
      have o_S_2 := S_w10.out.c (i := 2) rfl
      have o_S_3 := S_w10.out.c (i := 3) rfl
      have o_S_4 := S_w10.out.c (i := 4) rfl
      have o_S_5 := S_w10.out.c (i := 5) rfl
      have o_S_6 := S_w10.out.c (i := 6) rfl
      go_wp2_with fail
      clear o_S_0 o_S_1 o_S_2 o_S_3 o_S_4 o_S_5 o_S_6
      go_at_call 10
      (with_reducible refine (cRR1.out _ F_w10.out).mono ?_)
      rintro e w11 ⟨rfl, hb11⟩
      have S_w11 := Lib.hid (S_w10.out.below hb11)
      have C_w11 := Lib.hid (C_w10.out.below hb11)
      have F_w11 := Lib.hid (F_w10.out.below hb11)
      have M_w11 := Lib.hid (M_w10.out.below hb11)
      have Nt_w11 := Lib.hid (Nt_w10.out.below hb11)
      have BA_w11 := Lib.hid (BA_w10.out.below hb11)
      have Ht_w11 := Lib.hid (Ht_w10.out.below hb11)
      have BB_w11 := Lib.hid (BB_w10.out.below hb11)
      have BZ_w11 := Lib.hid (BZ_w10.out.below hb11)
      have Xt_w11 := Lib.hid (Xt_w10.out.below hb11)
      have BX_w11 := Lib.hid (BX_w10.out.below hb11)
      have z0_w11 : w.heap.size < w11.heap.size := Nat.lt_of_lt_of_le z0_w10 hb11.size
      have z1_w11 : w2.heap.size < w11.heap.size := Nat.lt_of_lt_of_le z1_w10 hb11.size
      have z2_w11 : w4.heap.size < w11.heap.size := Nat.lt_of_lt_of_le z2_w10 hb11.size
      have z3_w11 : w5.heap.size < w11.heap.size := Nat.lt_of_lt_of_le z3_w10 hb11.size
      have z4_w11 : w8.heap.size < w11.heap.size := Nat.lt_of_lt_of_le z4_w10 hb11.size
      have B_w11 := bt B_w10 hb11
      clear S_w10 C_w10 F_w10 M_w10 Nt_w10 BA_w10 Ht_w10 BB_w10 BZ_w10 Xt_w10 BX_w10 z0_w10 z1_w10 z2_w10 z3_w10 z4_w10 B_w10 hb11
      have o_BB_0 := BB_w11.out.c (i := 0) rfl
      have o_BB_1 := BB_w11.out.c (i := 1) rfl
      have o_BB_2 := BB_w11.out.c (i := 2) rfl
      have o_BB_3 := BB_w11.out.c (i := 3) rfl
      have o_BB_4 := BB_w11.out.c (i := 4) rfl
      have o_BB_5 := BB_w11.out.c (i := 5) rfl
      have o_BB_6 := BB_w11.out.c (i := 6) rfl
      have o_BZ_0 := BZ_w11.out.c (i := 0) rfl
      have o_BZ_1 := BZ_w11.out.c (i := 1) rfl
      have o_BZ_2 := BZ_w11.out.c (i := 2) rfl
      have o_BZ_3 := BZ_w11.out.c (i := 3) rfl
      have o_BZ_4 := BZ_w11.out.c (i := 4) rfl
      have o_BZ_5 := BZ_w11.out.c (i := 5) rfl
      have o_BZ_6 := BZ_w11.out.c (i := 6) rfl
      go_wp2_with fail
      clear o_BB_0 o_BB_1 o_BB_2 o_BB_3 o_BB_4 o_BB_5 o_BB_6 o_BZ_0 o_BZ_1 o_BZ_2 o_BZ_3 o_BZ_4 o_BZ_5 o_BZ_6
      go_at_call 13
      (with_reducible refine (same_zero Ht_w11.out).mono ?_)
      rintro e w12 ⟨rfl, hb12⟩
      have S_w12 := Lib.hid (S_w11.out.below hb12)
      have C_w12 := Lib.hid (C_w11.out.below hb12)
      have F_w12 := Lib.hid (F_w11.out.below hb12)
      have M_w12 := Lib.hid (M_w11.out.below hb12)
      have Nt_w12 := Lib.hid (Nt_w11.out.below hb12)
      have BA_w12 := Lib.hid (BA_w11.out.below hb12)
      have Ht_w12 := Lib.hid (Ht_w11.out.below hb12)
      have BB_w12 := Lib.hid (BB_w11.out.below hb12)
      have BZ_w12 := Lib.hid (BZ_w11.out.below hb12)
      have Xt_w12 := Lib.hid (Xt_w11.out.below hb12)
      have BX_w12 := Lib.hid (BX_w11.out.below hb12)
      have z0_w12 : w.heap.size < w12.heap.size := Nat.lt_of_lt_of_le z0_w11 hb12.size
      have z1_w12 : w2.heap.size < w12.heap.size := Nat.lt_of_lt_of_le z1_w11 hb12.size
      have z2_w12 : w4.heap.size < w12.heap.size := Nat.lt_of_lt_of_le z2_w11 hb12.size
      have z3_w12 : w5.heap.size < w12.heap.size := Nat.lt_of_lt_of_le z3_w11 hb12.size
      have z4_w12 : w8.heap.size < w12.heap.size := Nat.lt_of_lt_of_le z4_w11 hb12.size
      have B_w12 := bt B_w11 hb12
      clear S_w11 C_w11 F_w11 M_w11 Nt_w11 BA_w11 Ht_w11 BB_w11 BZ_w11 Xt_w11 BX_w11 z0_w11 z1_w11 z2_w11 z3_w11 z4_w11 B_w11 hb12
      go_wp2_with fail
      go_ret
      exact ⟨rfl, B_w12⟩
    · obtain rfl : true = fo := by rw [← hfo.out, hk]
      replace hk := Lib.hid hk
      have o_S_0 := S_w10.out.c (i := 0) rfl
      have o_S_1 := S_w10.out.c (i := 1) rfl
      have o_S_2 := S_w10.out.c (i := 2) rfl
      have o_S_3 := S_w10.out.c (i := 3) rfl
      have o_S_4 := S_w10.out.c (i := 4) rfl
      have o_S_5 := S_w10.out.c (i := 5) rfl
      have o_S_6 := S_w10.out.c (i := 6) rfl
      go_wp2_with fail
      clear o_S_0 o_S_1 o_S_2 o_S_3 o_S_4 o_S_5 o_S_6
      go_at_call 10
      (with_reducible refine (cRR1.out _ F_w10.out).mono ?_)
      rintro e w11 ⟨rfl, hb11⟩
      have S_w11 := Lib.hid (S_w10.out.below hb11)
      have C_w11 := Lib.hid (C_w10.out.below hb11)
      have F_w11 := Lib.hid (F_w10.out.below hb11)
      have M_w11 := Lib.hid (M_w10.out.below hb11)
      have Nt_w11 := Lib.hid (Nt_w10.out.below hb11)
      have BA_w11 := Lib.hid (BA_w10.out.below hb11)
      have Ht_w11 := Lib.hid (Ht_w10.out.below hb11)
      have BB_w11 := Lib.hid (BB_w10.out.below hb11)
      have BZ_w11 := Lib.hid (BZ_w10.out.below hb11)
      have Xt_w11 := Lib.hid (Xt_w10.out.below hb11)
      have BX_w11 := Lib.hid (BX_w10.out.below hb11)
      have z0_w11 : w.heap.size < w11.heap.size := Nat.lt_of_lt_of_le z0_w10 hb11.size
      have z1_w11 : w2.heap.size < w11.heap.size := Nat.lt_of_lt_of_le z1_w10 hb11.size
      have z2_w11 : w4.heap.size < w11.heap.size := Nat.lt_of_lt_of_le z2_w10 hb11.size
      have z3_w11 : w5.heap.size < w11.heap.size := Nat.lt_of_lt_of_le z3_w10 hb11.size
      have z4_w11 : w8.heap.size < w11.heap.size := Nat.lt_of_lt_of_le z4_w10 hb11.size
      have B_w11 := bt B_w10 hb11
      clear S_w10 C_w10 F_w10 M_w10 Nt_w10 BA_w10 Ht_w10 BB_w10 BZ_w10 Xt_w10 BX_w10 z0_w10 z1_w10 z2_w10 z3_w10 z4_w10 B_w10 hb11
      by_cases hp0 : port < 0
      · replace hpr := Lib.hid hpr
        have o_S_0 := S_w11.out.c (i := 0) rfl
        have o_S_1 := S_w11.out.c (i := 1) rfl
        have o_S_2 := S_w11.out.c (i := 2) rfl
        have o_S_3 := S_w11.out.c (i := 3) rfl
        have o_S_4 := S_w11.out.c (i := 4) rfl
        have o_S_5 := S_w11.out.c (i := 5) rfl
        have o_S_6 := S_w11.out.c (i := 6) rfl
        have o_BB_0 := BB_w11.out.c (i := 0) rfl
        have o_BB_1 := BB_w11.out.c (i := 1) rfl
        have o_BB_2 := BB_w11.out.c (i := 2) rfl
        have o_BB_3 := BB_w11.out.c (i := 3) rfl
        have o_BB_4 := BB_w11.out.c (i := 4) rfl
        have o_BB_5 := BB_w11.out.c (i := 5) rfl
        have o_BB_6 := BB_w11.out.c (i := 6) rfl
        have o_BZ_0 := BZ_w11.out.c (i := 0) rfl
        have o_BZ_1 := BZ_w11.out.c (i := 1) rfl
        have o_BZ_2 := BZ_w11.out.c (i := 2) rfl
        have o_BZ_3 := BZ_w11.out.c (i := 3) rfl
        have o_BZ_4 := BZ_w11.out.c (i := 4) rfl
        have o_BZ_5 := BZ_w11.out.c (i := 5) rfl
        have o_BZ_6 := BZ_w11.out.c (i := 6) rfl
        go_wp2_with fail
        clear o_S_0 o_S_1 o_S_2 o_S_3 o_S_4 o_S_5 o_S_6 o_BB_0 o_BB_1 o_BB_2 o_BB_3 o_BB_4 o_BB_5 o_BB_6 o_BZ_0 o_BZ_1 o_BZ_2 o_BZ_3 o_BZ_4 o_BZ_5 o_BZ_6
        go_at_call 13
        (with_reducible refine (same_zero Ht_w11.out).mono ?_)
        rintro e w12 ⟨rfl, hb12⟩
        have S_w12 := Lib.hid (S_w11.out.below hb12)
        have C_w12 := Lib.hid (C_w11.out.below hb12)
        have F_w12 := Lib.hid (F_w11.out.below hb12)
        have M_w12 := Lib.hid (M_w11.out.below hb12)
        have Nt_w12 := Lib.hid (Nt_w11.out.below hb12)
        have BA_w12 := Lib.hid (BA_w11.out.below hb12)
        have Ht_w12 := Lib.hid (Ht_w11.out.below hb12)
        have BB_w12 := Lib.hid (BB_w11.out.below hb12)
        have BZ_w12 := Lib.hid (BZ_w11.out.below hb12)
        have Xt_w12 := Lib.hid (Xt_w11.out.below hb12)
        have BX_w12 := Lib.hid (BX_w11.out.below hb12)
        have z0_w12 : w.heap.size < w12.heap.size := Nat.lt_of_lt_of_le z0_w11 hb12.size
        have z1_w12 : w2.heap.size < w12.heap.size := Nat.lt_of_lt_of_le z1_w11 hb12.size
        have z2_w12 : w4.heap.size < w12.heap.size := Nat.lt_of_lt_of_le z2_w11 hb12.size
        have z3_w12 : w5.heap.size < w12.heap.size := Nat.lt_of_lt_of_le z3_w11 hb12.size
        have z4_w12 : w8.heap.size < w12.heap.size := Nat.lt_of_lt_of_le z4_w11 hb12.size
        have B_w12 := bt B_w11 hb12
        clear S_w11 C_w11 F_w11 M_w11 Nt_w11 BA_w11 Ht_w11 BB_w11 BZ_w11 Xt_w11 BX_w11 z0_w11 z1_w11 z2_w11 z3_w11 z4_w11 B_w11 hb12
        go_wp2_with fail
        go_ret
        exact ⟨rfl, B_w12⟩
      · have hp1 : (f.states.length : Int) ≤ port := by omega
        replace hpr := Lib.hid hpr
        have o_S_0 := S_w11.out.c (i := 0) rfl
        have o_S_1 := S_w11.out.c (i := 1) rfl
        have o_S_2 := S_w11.out.c (i := 2) rfl
        have o_S_3 := S_w11.out.c (i := 3) rfl
        have o_S_4 := S_w11.out.c (i := 4) rfl
        have o_S_5 := S_w11.out.c (i := 5) rfl
        have o_S_6 := S_w11.out.c (i := 6) rfl
        have o_BB_0 := BB_w11.out.c (i := 0) rfl
        have o_BB_1 := BB_w11.out.c (i := 1) rfl
        have o_BB_2 := BB_w11.out.c (i := 2) rfl
        have o_BB_3 := BB_w11.out.c (i := 3) rfl
        have o_BB_4 := BB_w11.out.c (i := 4) rfl
        have o_BB_5 := BB_w11.out.c (i := 5) rfl
        have o_BB_6 := BB_w11.out.c (i := 6) rfl
        have o_BZ_0 := BZ_w11.out.c (i := 0) rfl
        have o_BZ_1 := BZ_w11.out.c (i := 1) rfl
        have o_BZ_2 := BZ_w11.out.c (i := 2) rfl
        have o_BZ_3 := BZ_w11.out.c (i := 3) rfl
        have o_BZ_4 := BZ_w11.out.c (i := 4) rfl
        have o_BZ_5 := BZ_w11.out.c (i := 5) rfl
        have o_BZ_6 := BZ_w11.out.c (i := 6) rfl
        go_wp2_with fail
        clear o_S_0 o_S_1 o_S_2 o_S_3 o_S_4 o_S_5 o_S_6 o_BB_0 o_BB_1 o_BB_2 o_BB_3 o_BB_4 o_BB_5 o_BB_6 o_BZ_0 o_BZ_1 o_BZ_2 o_BZ_3 o_BZ_4 o_BZ_5 o_BZ_6
        go_at_call 13
        (with_reducible refine (same_zero Ht_w11.out).mono ?_)
        rintro e w12 ⟨rfl, hb12⟩
        have S_w12 := Lib.hid (S_w11.out.below hb12)
        have C_w12 := Lib.hid (C_w11.out.below hb12)
        have F_w12 := Lib.hid (F_w11.out.below hb12)
        have M_w12 := Lib.hid (M_w11.out.below hb12)
        have Nt_w12 := Lib.hid (Nt_w11.out.below hb12)
        have BA_w12 := Lib.hid (BA_w11.out.below hb12)
        have Ht_w12 := Lib.hid (Ht_w11.out.below hb12)
        have BB_w12 := Lib.hid (BB_w11.out.below hb12)
        have BZ_w12 := Lib.hid (BZ_w11.out.below hb12)
        have Xt_w12 := Lib.hid (Xt_w11.out.below hb12)
        have BX_w12 := Lib.hid (BX_w11.out.below hb12)
        have z0_w12 : w.heap.size < w12.heap.size := Nat.lt_of_lt_of_le z0_w11 hb12.size
        have z1_w12 : w2.heap.size < w12.heap.size := Nat.lt_of_lt_of_le z1_w11 hb12.size
        have z2_w12 : w4.heap.size < w12.heap.size := Nat.lt_of_lt_of_le z2_w11 hb12.size
        have z3_w12 : w5.heap.size < w12.heap.size := Nat.lt_of_lt_of_le z3_w11 hb12.size
        have z4_w12 : w8.heap.size < w12.heap.size := Nat.lt_of_lt_of_le z4_w11 hb12.size
        have B_w12 := bt B_w11 hb12
        clear S_w11 C_w11 F_w11 M_w11 Nt_w11 BA_w11 Ht_w11 BB_w11 BZ_w11 Xt_w11 BX_w11 z0_w11 z1_w11 z2_w11 z3_w11 z4_w11 B_w11 hb12
        go_wp2_with fail
        go_ret
        exact ⟨rfl, B_w12⟩
    · obtain rfl : true = fo := by rw [← hfo.out, hk]
      replace hk := Lib.hid hk
      have hp0 : ¬ port < 0 := by omega
      have hp1 : ¬ (f.states.length : Int) ≤ port := by omega
      clear hpr
      have o_S_0 := S_w10.out.c (i := 0) rfl
      have o_S_1 := S_w10.out.c (i := 1) rfl
      have o_S_2 := S_w10.out.c (i := 2) rfl
      have o_S_3 := S_w10.out.c (i := 3) rfl
      have o_S_4 := S_w10.out.c (i := 4) rfl
      have o_S_5 := S_w10.out.c (i := 5) rfl
      have o_S_6 := S_w10.out.c (i := 6) rfl
      go_wp2_with fail
      clear o_S_0 o_S_1 o_S_2 o_S_3 o_S_4 o_S_5 o_S_6
      go_at_call 10
      (with_reducible refine (cRR1.out _ F_w10.out).mono ?_)
      rintro e w11 ⟨rfl, hb11⟩
      have S_w11 := Lib.hid (S_w10.out.below hb11)
      have C_w11 := Lib.hid (C_w10.out.below hb11)
      have F_w11 := Lib.hid (F_w10.out.below hb11)
      have M_w11 := Lib.hid (M_w10.out.below hb11)
      have Nt_w11 := Lib.hid (Nt_w10.out.below hb11)
      have BA_w11 := Lib.hid (BA_w10.out.below hb11)
      have Ht_w11 := Lib.hid (Ht_w10.out.below hb11)
      have BB_w11 := Lib.hid (BB_w10.out.below hb11)
      have BZ_w11 := Lib.hid (BZ_w10.out.below hb11)
      have Xt_w11 := Lib.hid (Xt_w10.out.below hb11)
      have BX_w11 := Lib.hid (BX_w10.out.below hb11)
      have z0_w11 : w.heap.size < w11.heap.size := Nat.lt_of_lt_of_le z0_w10 hb11.size
      have z1_w11 : w2.heap.size < w11.heap.size := Nat.lt_of_lt_of_le z1_w10 hb11.size
      have z2_w11 : w4.heap.size < w11.heap.size := Nat.lt_of_lt_of_le z2_w10 hb11.size
      have z3_w11 : w5.heap.size < w11.heap.size := Nat.lt_of_lt_of_le z3_w10 hb11.size
      have z4_w11 : w8.heap.size < w11.heap.size := Nat.lt_of_lt_of_le z4_w10 hb11.size
      have B_w11 := bt B_w10 hb11
      clear S_w10 C_w10 F_w10 M_w10 Nt_w10 BA_w10 Ht_w10 BB_w10 BZ_w10 Xt_w10 BX_w10 z0_w10 z1_w10 z2_w10 z3_w10 z4_w10 B_w10 hb11
      have o_S_0 := S_w11.out.c (i := 0) rfl
      have o_S_1 := S_w11.out.c (i := 1) rfl
      have o_S_2 := S_w11.out.c (i := 2) rfl
      have o_S_3 := S_w11.out.c (i := 3) rfl
      have o_S_4 := S_w11.out.c (i := 4) rfl
      have o_S_5 := S_w11.out.c (i := 5) rfl
      have o_S_6 := S_w11.out.c (i := 6) rfl
      have o_C_0 := C_w11.out.c (i := 0) rfl
      have o_C_1 := C_w11.out.c (i := 1) rfl
      have o_C_2 := C_w11.out.c (i := 2) rfl
      have o_C_3 := C_w11.out.c (i := 3) rfl
      have o_C_4 := C_w11.out.c (i := 4) rfl
      go_wp2_with fail
      clear o_S_0 o_S_1 o_S_2 o_S_3 o_S_4 o_S_5 o_S_6 o_C_0 o_C_1 o_C_2 o_C_3 o_C_4
      go_at_call 14
      (with_reducible refine (cfg_to hcf _).mono ?_)
      rintro e w12 ⟨rfl, hb12⟩
      have S_w12 := Lib.hid (S_w11.out.below hb12)
      have C_w12 := Lib.hid (C_w11.out.below hb12)
      have F_w12 := Lib.hid (F_w11.out.below hb12)
      have M_w12 := Lib.hid (M_w11.out.below hb12)
      have Nt_w12 := Lib.hid (Nt_w11.out.below hb12)
      have BA_w12 := Lib.hid (BA_w11.out.below hb12)
      have Ht_w12 := Lib.hid (Ht_w11.out.below hb12)
      have BB_w12 := Lib.hid (BB_w11.out.below hb12)
      have BZ_w12 := Lib.hid (BZ_w11.out.below hb12)
      have Xt_w12 := Lib.hid (Xt_w11.out.below hb12)
      have BX_w12 := Lib.hid (BX_w11.out.below hb12)
      have z0_w12 : w.heap.size < w12.heap.size := Nat.lt_of_lt_of_le z0_w11 hb12.size
      have z1_w12 : w2.heap.size < w12.heap.size := Nat.lt_of_lt_of_le z1_w11 hb12.size
      have z2_w12 : w4.heap.size < w12.heap.size := Nat.lt_of_lt_of_le z2_w11 hb12.size
      have z3_w12 : w5.heap.size < w12.heap.size := Nat.lt_of_lt_of_le z3_w11 hb12.size
      have z4_w12 : w8.heap.size < w12.heap.size := Nat.lt_of_lt_of_le z4_w11 hb12.size
      have B_w12 := bt B_w11 hb12
      clear S_w11 C_w11 F_w11 M_w11 Nt_w11 BA_w11 Ht_w11 BB_w11 BZ_w11 Xt_w11 BX_w11 z0_w11 z1_w11 z2_w11 z3_w11 z4_w11 B_w11 hb12
      replace hcf := Lib.hid hcf
      have o_BB_0 := BB_w12.out.c (i := 0) rfl
      have o_BB_1 := BB_w12.out.c (i := 1) rfl
      have o_BB_2 := BB_w12.out.c (i := 2) rfl
      have o_BB_3 := BB_w12.out.c (i := 3) rfl
      have o_BB_4 := BB_w12.out.c (i := 4) rfl
      have o_BB_5 := BB_w12.out.c (i := 5) rfl
      have o_BB_6 := BB_w12.out.c (i := 6) rfl
      have o_BZ_0 := BZ_w12.out.c (i := 0) rfl
      have o_BZ_1 := BZ_w12.out.c (i := 1) rfl
      have o_BZ_2 := BZ_w12.out.c (i := 2) rfl
      have o_BZ_3 := BZ_w12.out.c (i := 3) rfl
      have o_BZ_4 := BZ_w12.out.c (i := 4) rfl
      have o_BZ_5 := BZ_w12.out.c (i := 5) rfl
      have o_BZ_6 := BZ_w12.out.c (i := 6) rfl
      go_wp2_with fail
      clear o_BB_0 o_BB_1 o_BB_2 o_BB_3 o_BB_4 o_BB_5 o_BB_6 o_BZ_0 o_BZ_1 o_BZ_2 o_BZ_3 o_BZ_4 o_BZ_5 o_BZ_6
      go_at_call 13
      (with_reducible refine (same_zero Ht_w12.out).mono ?_)
      rintro e w13 ⟨rfl, hb13⟩
      have S_w13 := Lib.hid (S_w12.out.below hb13)
      have C_w13 := Lib.hid (C_w12.out.below hb13)
      have F_w13 := Lib.hid (F_w12.out.below hb13)
      have M_w13 := Lib.hid (M_w12.out.below hb13)
      have Nt_w13 := Lib.hid (Nt_w12.out.below hb13)
      have BA_w13 := Lib.hid (BA_w12.out.below hb13)
      have Ht_w13 := Lib.hid (Ht_w12.out.below hb13)
      have BB_w13 := Lib.hid (BB_w12.out.below hb13)
      have BZ_w13 := Lib.hid (BZ_w12.out.below hb13)
      have Xt_w13 := Lib.hid (Xt_w12.out.below hb13)
      have BX_w13 := Lib.hid (BX_w12.out.below hb13)
      have z0_w13 : w.heap.size < w13.heap.size := Nat.lt_of_lt_of_le z0_w12 hb13.size
      have z1_w13 : w2.heap.size < w13.heap.size := Nat.lt_of_lt_of_le z1_w12 hb13.size
      have z2_w13 : w4.heap.size < w13.heap.size := Nat.lt_of_lt_of_le z2_w12 hb13.size
      have z3_w13 : w5.heap.size < w13.heap.size := Nat.lt_of_lt_of_le z3_w12 hb13.size
      have z4_w13 : w8.heap.size < w13.heap.size := Nat.lt_of_lt_of_le z4_w12 hb13.size
      have B_w13 := bt B_w12 hb13
      clear S_w12 C_w12 F_w12 M_w12 Nt_w12 BA_w12 Ht_w12 BB_w12 BZ_w12 Xt_w12 BX_w12 z0_w12 z1_w12 z2_w12 z3_w12 z4_w12 B_w12 hb13
      go_wp2_with fail
      go_ret
      exact ⟨rfl, B_w13⟩
    · obtain rfl : true = fo := by rw [← hfo.out, hk]
      have hp0 : ¬ (k : Int) < 0 := by omega
      have hp1 : ¬ (f.states.length : Int) ≤ (k : Int) := by omega
      obtain ⟨cf1, cf2, cf3⟩ := cfg_iff hcf
      have cRH := Lib.hid fun (W : World) (h : TreeR W f AC cC AU cU AI cI AS cS) => r_hear (w := W) hk hkl cf1 cf2 cf3 h
      replace hk := Lib.hid hk
      replace hkl := Lib.hid hkl
      clear cf1 cf2 cf3
      have o_S_0 := S_w10.out.c (i := 0) rfl
      have o_S_1 := S_w10.out.c (i := 1) rfl
      have o_S_2 := S_w10.out.c (i := 2) rfl
      have o_S_3 := S_w10.out.c (i := 3) rfl
      have o_S_4 := S_w10.out.c (i := 4) rfl
      have o_S_5 := S_w10.out.c (i := 5) rfl
      have o_S_6 := S_w10.out.c (i := 6) rfl
      go_wp2_with fail
      clear o_S_0 o_S_1 o_S_2 o_S_3 o_S_4 o_S_5 o_S_6
      go_at_call 10
      (with_reducible refine (cRR1.out _ F_w10.out).mono ?_)
      rintro e w11 ⟨rfl, hb11⟩
      have S_w11 := Lib.hid (S_w10.out.below hb11)
      have C_w11 := Lib.hid (C_w10.out.below hb11)
      have F_w11 := Lib.hid (F_w10.out.below hb11)
      have M_w11 := Lib.hid (M_w10.out.below hb11)
      have Nt_w11 := Lib.hid (Nt_w10.out.below hb11)
      have BA_w11 := Lib.hid (BA_w10.out.below hb11)
      have Ht_w11 := Lib.hid (Ht_w10.out.below hb11)
      have BB_w11 := Lib.hid (BB_w10.out.below hb11)
      have BZ_w11 := Lib.hid (BZ_w10.out.below hb11)
      have Xt_w11 := Lib.hid (Xt_w10.out.below hb11)
      have BX_w11 := Lib.hid (BX_w10.out.below hb11)
      have z0_w11 : w.heap.size < w11.heap.size := Nat.lt_of_lt_of_le z0_w10 hb11.size
      have z1_w11 : w2.heap.size < w11.heap.size := Nat.lt_of_lt_of_le z1_w10 hb11.size
      have z2_w11 : w4.heap.size < w11.heap.size := Nat.lt_of_lt_of_le z2_w10 hb11.size
      have z3_w11 : w5.heap.size < w11.heap.size := Nat.lt_of_lt_of_le z3_w10 hb11.size
      have z4_w11 : w8.heap.size < w11.heap.size := Nat.lt_of_lt_of_le z4_w10 hb11.size
      have B_w11 := bt B_w10 hb11
      clear S_w10 C_w10 F_w10 M_w10 Nt_w10 BA_w10 Ht_w10 BB_w10 BZ_w10 Xt_w10 BX_w10 z0_w10 z1_w10 z2_w10 z3_w10 z4_w10 B_w10 hb11
      have o_S_0 := S_w11.out.c (i := 0) rfl
      have o_S_1 := S_w11.out.c (i := 1) rfl
      have o_S_2 := S_w11.out.c (i := 2) rfl
      have o_S_3 := S_w11.out.c (i := 3) rfl
      have o_S_4 := S_w11.out.c (i := 4) rfl
      have o_S_5 := S_w11.out.c (i := 5) rfl
      have o_S_6 := S_w11.out.c (i := 6) rfl
      have o_C_0 := C_w11.out.c (i := 0) rfl
      have o_C_1 := C_w11.out.c (i := 1) rfl
      have o_C_2 := C_w11.out.c (i := 2) rfl
      have o_C_3 := C_w11.out.c (i := 3) rfl
      have o_C_4 := C_w11.out.c (i := 4) rfl
      go_wp2_with fail
      clear o_S_0 o_S_1 o_S_2 o_S_3 o_S_4 o_S_5 o_S_6 o_C_0 o_C_1 o_C_2 o_C_3 o_C_4
      go_at_call 14
      (with_reducible refine (cfg_to hcf _).mono ?_)
      rintro e w12 ⟨rfl, hb12⟩
      have S_w12 := Lib.hid (S_w11.out.below hb12)
      have C_w12 := Lib.hid (C_w11.out.below hb12)
      have F_w12 := Lib.hid (F_w11.out.below hb12)
      have M_w12 := Lib.hid (M_w11.out.below hb12)
      have Nt_w12 := Lib.hid (Nt_w11.out.below hb12)
      have BA_w12 := Lib.hid (BA_w11.out.below hb12)
      have Ht_w12 := Lib.hid (Ht_w11.out.below hb12)
      have BB_w12 := Lib.hid (BB_w11.out.below hb12)
      have BZ_w12 := Lib.hid (BZ_w11.out.below hb12)
      have Xt_w12 := Lib.hid (Xt_w11.out.below hb12)
      have BX_w12 := Lib.hid (BX_w11.out.below hb12)
      have z0_w12 : w.heap.size < w12.heap.size := Nat.lt_of_lt_of_le z0_w11 hb12.size
      have z1_w12 : w2.heap.size < w12.heap.size := Nat.lt_of_lt_of_le z1_w11 hb12.size
      have z2_w12 : w4.heap.size < w12.heap.size := Nat.lt_of_lt_of_le z2_w11 hb12.size
      have z3_w12 : w5.heap.size < w12.heap.size := Nat.lt_of_lt_of_le z3_w11 hb12.size
      have z4_w12 : w8.heap.size < w12.heap.size := Nat.lt_of_lt_of_le z4_w11 hb12.size
      have B_w12 := bt B_w11 hb12
      clear S_w11 C_w11 F_w11 M_w11 Nt_w11 BA_w11 Ht_w11 BB_w11 BZ_w11 Xt_w11 BX_w11 z0_w11 z1_w11 z2_w11 z3_w11 z4_w11 B_w11 hb12
      replace hcf := Lib.hid hcf
      clear hp0 hp1
      skip
      have o_S_0 := S_w12.out.c (i := 0) rfl
      have o_S_1 := S_w12.out.c (i := 1) rfl
      have o_S_2 := S_w12.out.c (i := 2) rfl
      have o_S_3 := S_w12.out.c (i := 3) rfl
      have o_S_4 := S_w12.out.c (i := 4) rfl
      have o_S_5 := S_w12.out.c (i := 5) rfl
      have o_S_6 := S_w12.out.c (i := 6) rfl
      have o_C_0 := C_w12.out.c (i := 0) rfl
      have o_C_1 := C_w12.out.c (i := 1) rfl
      have o_C_2 := C_w12.out.c (i := 2) rfl
      have o_C_3 := C_w12.out.c (i := 3) rfl
      have o_C_4 := C_w12.out.c (i := 4) rfl
      go_wp2_with fail
      clear o_S_0 o_S_1 o_S_2 o_S_3 o_S_4 o_S_5 o_S_6 o_C_0 o_C_1 o_C_2 o_C_3 o_C_4
      go_at_call 15
      (with_reducible refine (cRH.out _ F_w12.out).mono ?_)
      rintro e w13 ⟨ACy, cCy, AUy, cUy, AIy, cIy, ASy, cSy, rfl, try_, hb13, _⟩
      have S_w13 := Lib.hid (S_w12.out.below hb13)
      have C_w13 := Lib.hid (C_w12.out.below hb13)
      have F_w13 := Lib.hid (F_w12.out.below hb13)
      have M_w13 := Lib.hid (M_w12.out.below hb13)
      have Nt_w13 := Lib.hid (Nt_w12.out.below hb13)
      have BA_w13 := Lib.hid (BA_w12.out.below hb13)
      have Ht_w13 := Lib.hid (Ht_w12.out.below hb13)
      have BB_w13 := Lib.hid (BB_w12.out.below hb13)
      have BZ_w13 := Lib.hid (BZ_w12.out.below hb13)
      have Xt_w13 := Lib.hid (Xt_w12.out.below hb13)
      have BX_w13 := Lib.hid (BX_w12.out.below hb13)
      have Yt_w13 := Lib.hid (try_)
      have z0_w13 : w.heap.size < w13.heap.size := Nat.lt_of_lt_of_le z0_w12 hb13.size
      have z1_w13 : w2.heap.size < w13.heap.size := Nat.lt_of_lt_of_le z1_w12 hb13.size
      have z2_w13 : w4.heap.size < w13.heap.size := Nat.lt_of_lt_of_le z2_w12 hb13.size
      have z3_w13 : w5.heap.size < w13.heap.size := Nat.lt_of_lt_of_le z3_w12 hb13.size
      have z4_w13 : w8.heap.size < w13.heap.size := Nat.lt_of_lt_of_le z4_w12 hb13.size
      have B_w13 := bt B_w12 hb13
      clear S_w12 C_w12 F_w12 M_w12 Nt_w12 BA_w12 Ht_w12 BB_w12 BZ_w12 Xt_w12 BX_w12 z0_w12 z1_w12 z2_w12 z3_w12 z4_w12 B_w12 hb13
      clear try_
      go_upto_region 20 with fail
      obtain ⟨w14, hw14⟩ : ∃ W, W = w13.alloc (.cells #[.int .i64 (f.hear k cv ca).self.id, .slice ACy (f.hear k cv ca).self.costs.length cCy, .slice AUy (f.hear k cv ca).self.ups.length cUy, .slice AIy (f.hear k cv ca).self.infos.length cIy, .slice ASy (f.hear k cv ca).states.length cSy, .int .i64 (f.hear k cv ca).mx, .int .i64 (f.hear k cv ca).dl] 29) := ⟨_, rfl⟩
      have bw14 : Below w13.heap.size w13 w14 := by rw [hw14]; exact (Below.refl _ _).alloc (Nat.le_refl _) _
      have Xw14 : Bx w14 w13.heap.size 29 #[.int .i64 (f.hear k cv ca).self.id, .slice ACy (f.hear k cv ca).self.costs.length cCy, .slice AUy (f.hear k cv ca).self.ups.length cUy, .slice AIy (f.hear k cv ca).self.infos.length cIy, .slice ASy (f.hear k cv ca).states.length cSy, .int .i64 (f.hear k cv ca).mx, .int .i64 (f.hear k cv ca).dl] := by rw [hw14]; exact Bx.new _ _ _ rfl
      rw [← hw14]
      clear hw14
      have S_w14 := Lib.hid (S_w13.out.below bw14)
      have C_w14 := Lib.hid (C_w13.out.below bw14)
      have F_w14 := Lib.hid (F_w13.out.below bw14)
      have M_w14 := Lib.hid (M_w13.out.below bw14)
      have Nt_w14 := Lib.hid (Nt_w13.out.below bw14)
      have BA_w14 := Lib.hid (BA_w13.out.below bw14)
      have Ht_w14 := Lib.hid (Ht_w13.out.below bw14)
      have BB_w14 := Lib.hid (BB_w13.out.below bw14)
      have BZ_w14 := Lib.hid (BZ_w13.out.below bw14)
      have Xt_w14 := Lib.hid (Xt_w13.out.below bw14)
      have BX_w14 := Lib.hid (BX_w13.out.below bw14)
      have Yt_w14 := Lib.hid (Yt_w13.out.below bw14)
      have BY_w14 := Lib.hid (Xw14)
      have z0_w14 : w.heap.size < w14.heap.size := Nat.lt_of_lt_of_le z0_w13 bw14.size
      have z1_w14 : w2.heap.size < w14.heap.size := Nat.lt_of_lt_of_le z1_w13 bw14.size
      have z2_w14 : w4.heap.size < w14.heap.size := Nat.lt_of_lt_of_le z2_w13 bw14.size
      have z3_w14 : w5.heap.size < w14.heap.size := Nat.lt_of_lt_of_le z3_w13 bw14.size
      have z4_w14 : w8.heap.size < w14.heap.size := Nat.lt_of_lt_of_le z4_w13 bw14.size
      have B_w14 := bt B_w13 bw14
      clear S_w13 C_w13 F_w13 M_w13 Nt_w13 BA_w13 Ht_w13 BB_w13 BZ_w13 Xt_w13 BX_w13 Yt_w13 z0_w13 z1_w13 z2_w13 z3_w13 z4_w13 B_w13 bw14
      have z5_w14 : w13.heap.size < w14.heap.size := Xw14.lt
      clear Xw14
      have hbb : (f.hears k cv ca == f.hears k cv ca) = true := beq_self_eq_true _
      have o_BB_0 := BB_w14.out.c (i := 0) rfl
      have o_BB_1 := BB_w14.out.c (i := 1) rfl
      have o_BB_2 := BB_w14.out.c (i := 2) rfl
      have o_BB_3 := BB_w14.out.c (i := 3) rfl
      have o_BB_4 := BB_w14.out.c (i := 4) rfl
      have o_BB_5 := BB_w14.out.c (i := 5) rfl
      have o_BB_6 := BB_w14.out.c (i := 6) rfl
      have o_BY_0 := BY_w14.out.c (i := 0) rfl
      have o_BY_1 := BY_w14.out.c (i := 1) rfl
      have o_BY_2 := BY_w14.out.c (i := 2) rfl
      have o_BY_3 := BY_w14.out.c (i := 3) rfl
      have o_BY_4 := BY_w14.out.c (i := 4) rfl
      have o_BY_5 := BY_w14.out.c (i := 5) rfl
      have o_BY_6 := BY_w14.out.c (i := 6) rfl
      go_wp2_with fail
      clear o_BB_0 o_BB_1 o_BB_2 o_BB_3 o_BB_4 o_BB_5 o_BB_6 o_BY_0 o_BY_1 o_BY_2 o_BY_3 o_BY_4 o_BY_5 o_BY_6
      go_at_call 13
      (with_reducible refine (r12_same hhl Ht_w14.out Yt_w14.out).mono ?_)
      rintro e w15 ⟨rfl, hb15⟩
      have S_w15 := Lib.hid (S_w14.out.below hb15)
      have C_w15 := Lib.hid (C_w14.out.below hb15)
      have F_w15 := Lib.hid (F_w14.out.below hb15)
      have M_w15 := Lib.hid (M_w14.out.below hb15)
      have Nt_w15 := Lib.hid (Nt_w14.out.below hb15)
      have BA_w15 := Lib.hid (BA_w14.out.below hb15)
      have Ht_w15 := Lib.hid (Ht_w14.out.below hb15)
      have BB_w15 := Lib.hid (BB_w14.out.below hb15)
      have BZ_w15 := Lib.hid (BZ_w14.out.below hb15)
      have Xt_w15 := Lib.hid (Xt_w14.out.below hb15)
      have BX_w15 := Lib.hid (BX_w14.out.below hb15)
      have Yt_w15 := Lib.hid (Yt_w14.out.below hb15)
      have BY_w15 := Lib.hid (BY_w14.out.below hb15)
      have z0_w15 : w.heap.size < w15.heap.size := Nat.lt_of_lt_of_le z0_w14 hb15.size
      have z1_w15 : w2.heap.size < w15.heap.size := Nat.lt_of_lt_of_le z1_w14 hb15.size
      have z2_w15 : w4.heap.size < w15.heap.size := Nat.lt_of_lt_of_le z2_w14 hb15.size
      have z3_w15 : w5.heap.size < w15.heap.size := Nat.lt_of_lt_of_le z3_w14 hb15.size
      have z4_w15 : w8.heap.size < w15.heap.size := Nat.lt_of_lt_of_le z4_w14 hb15.size
      have z5_w15 : w13.heap.size < w15.heap.size := Nat.lt_of_lt_of_le z5_w14 hb15.size
      have B_w15 := bt B_w14 hb15
      clear S_w14 C_w14 F_w14 M_w14 Nt_w14 BA_w14 Ht_w14 BB_w14 BZ_w14 Xt_w14 BX_w14 Yt_w14 BY_w14 z0_w14 z1_w14 z2_w14 z3_w14 z4_w14 z5_w14 B_w14 hb15
      go_wp2_with fail
      go_ret
      exact ⟨rfl, B_w15⟩
end Go.Proofs.Ytidoaccidmmalaa.StpP
