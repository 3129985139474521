/-
  StpTicks, by the contracts of stp's own functions.
-/
import Derived.Test.YtidoaccidmmalaaStpH
import Derived.Test.YtidoaccidmmalaaRegGd
namespace Go.Proofs.Ytidoaccidmmalaa.StpP
open Go.Proofs.Ytidoaccidmmalaa.MacP (arr_out Wrote wp_region_ends outM wp_region_opsG)
open Go.RowKit Go.Sort Go.Proofs.Ytidoaccidmmalaa.SliceP Go.Proofs.Ytidoaccidmmalaa.BoxP Go.Proofs.Ytidoaccidmmalaa.VecP Go.Proofs.Ytidoaccidmmalaa.RoleP
open Go.Proofs.Ytidoaccidmmalaa.IntP (RowI SlI OwnI)
open Go.Proofs.Ytidoaccidmmalaa.BoolP (RowB SlB OwnB)
open Go.Proofs.Ytidoaccidmmalaa.PortP (okS roleS tickS sv)
set_option linter.unusedVariables false
set_option maxRecDepth 100000
theorem link_len {t : T} {p : Nat} {up : Bool} (h : Len t) : Len (t.link p up) := by
  unfold T.link T.blankAt
  by_cases c : (up && t.self.up p) = true
  · rw [if_pos c]
    exact ⟨h.c, by show (t.self.ups.set p up).length ≤ 1000; rw [List.length_set]; exact h.u, h.n, by rw [settle_len]; exact h.s⟩
  · rw [if_neg c]
    exact ⟨h.c, by show (t.self.ups.set p up).length ≤ 1000; rw [List.length_set]; exact h.u, by show (t.self.infos.set p N0).length ≤ 1000; rw [List.length_set]; exact h.n, by rw [settle_len]; exact h.s⟩
theorem tick_len {t : T} (h : Len t) : Len t.tick := ⟨h.c, h.u, by show (t.self.infos.map (aged t.mx)).length ≤ 1000; rw [List.length_map]; exact h.n, by show (t.aged.settle.ticked).states.length ≤ 1000; rw [ticked_len, settle_len]; exact h.s⟩
theorem tick_sts {t : T} : t.tick.states.length = t.states.length := by show (t.aged.settle.ticked).states.length = _; rw [ticked_len, settle_len]; rfl
/-- What Link answers of a tree that may be. -/
theorem link_any (C : StpC) {t : T} {AC : Option Addr} {cC : Nat} {AU : Option Addr} {cU : Nat} {AI : Option Addr} {cI : Nat} {AS : Option Addr} {cS : Nat} (hok : t.ok = true) (hl : Len t) (p : Int) (up : Bool) : ∃ (lt : T) (le : Int),
    (∀ w : World, TreeR w t AC cC AU cU AI cI AS cS → Calls Try.prog 17 #[tv t AC cC AU cU AI cI AS cS, .int .i64 p, .bool up] w (RetT w (fun b => OffT b t AC AU AI AS) lt (fun x => .tuple #[x, .int .i64 le]))) ∧ Len lt ∧
    ((p < 0 ∨ (t.states.length : Int) ≤ p) ∧ lt = T0 ∧ le = 3 ∨ ∃ k : Nat, p = k ∧ k < t.states.length ∧ lt = t.link k up ∧ le = 0) := by
  by_cases h1 : p < 0 ∨ (t.states.length : Int) ≤ p
  · exact ⟨T0, 3, fun w h => C.link_range hok ⟨h, hl⟩ h1, ⟨by decide, by decide, by decide, by decide⟩, .inl ⟨h1, rfl, rfl⟩⟩
  · obtain ⟨k, rfl⟩ : ∃ k : Nat, p = k := ⟨p.toNat, by omega⟩
    have hk : k < t.states.length := by omega
    exact ⟨_, 0, fun w h => C.link_ok hok ⟨h, hl⟩ hk, link_len hl, .inr ⟨k, rfl, hk, rfl, rfl⟩⟩
set_option maxHeartbeats 32000000 in
theorem ticks_law (C : StpC) {t : T} {AC : Option Addr} {cC : Nat} {AU : Option Addr} {cU : Nat} {AI : Option Addr} {cI : Nat} {AS : Option Addr} {cS : Nat} {w : World} (hI : InP w t AC cC AU cU AI cI AS cS) (port : Int) (up : Bool) :
    Calls Try.prog 4 #[tv t AC cC AU cU AI cI AS cS, .int .i64 port, .bool up] w (True1 w) := by
  show Calls Try.prog 4 #[tv t AC cC AU cU AI cI AS cS, .int .i64 port, .bool up] w fun e w' => e = .returned (.bool true) ∧ Below w.heap.size w w'
  obtain ⟨f, hf⟩ : ∃ f, fewT t = f := ⟨_, rfl⟩
  have hfl : Len f := by rw [← hf]; exact few_len t
  have hfr : TreeR w f AC cC AU cU AI cI AS cS := by rw [← hf]; exact few_tree hI.r
  have hfew := Lib.hid fun W => few_any hI W
  rw [hf] at hfew
  have cA := Lib.hid fun W => alive_any C W
  replace hf := Lib.hid hf
  clear hI
  obtain ⟨w0, hw0⟩ : ∃ W, W = w.alloc (.cells #[.int .i64 t.self.id, .slice AC t.self.costs.length cC, .slice AU t.self.ups.length cU, .slice AI t.self.infos.length cI, .slice AS t.states.length cS, .int .i64 t.mx, .int .i64 t.dl] 29) := ⟨_, rfl⟩
  have B0 : Below w.heap.size w w0 := by rw [hw0]; exact (Below.refl _ _).alloc (Nat.le_refl _) _
  have S0 := Lib.hid (show Bx w0 w.heap.size 29 #[.int .i64 t.self.id, .slice AC t.self.costs.length cC, .slice AU t.self.ups.length cU, .slice AI t.self.infos.length cI, .slice AS t.states.length cS, .int .i64 t.mx, .int .i64 t.dl] by rw [hw0]; exact Bx.new _ _ _ rfl)
  go_enter Try.func4, Try.ntmps4
  go_wp2_with fail
  rw [← hw0]
  clear hw0
  have zS0 := S0.out.lt
  go_at_call 6
  (with_reducible refine (hfew.out _).mono ?_)
  rintro e w1 ⟨rfl, hb1⟩
  have S_w1 := Lib.hid (S0.out.below hb1)
  have z0_w1 : w.heap.size < w1.heap.size := Nat.lt_of_lt_of_le zS0 hb1.size
  have B_w1 := bt B0 hb1
  clear S0 zS0 B0 hb1
  have o_S_0 := S_w1.out.c (i := 0) rfl
  have o_S_1 := S_w1.out.c (i := 1) rfl
  have o_S_2 := S_w1.out.c (i := 2) rfl
  have o_S_3 := S_w1.out.c (i := 3) rfl
  have o_S_4 := S_w1.out.c (i := 4) rfl
  have o_S_5 := S_w1.out.c (i := 5) rfl
  have o_S_6 := S_w1.out.c (i := 6) rfl
  have p_S_0 := S_w1.out.f 0
  have p_S_1 := S_w1.out.f 1
  have p_S_2 := S_w1.out.f 2
  have p_S_3 := S_w1.out.f 3
  have p_S_4 := S_w1.out.f 4
  have p_S_5 := S_w1.out.f 5
  have p_S_6 := S_w1.out.f 6
  go_upto_region 2 with fail
  clear o_S_0 o_S_1 o_S_2 o_S_3 o_S_4 o_S_5 o_S_6 p_S_0 p_S_1 p_S_2 p_S_3 p_S_4 p_S_5 p_S_6
  obtain ⟨w2, hw2⟩ : ∃ W, W = set7 w1 w.heap.size (.int .i64 f.self.id) (.slice AC f.self.costs.length cC) (.slice AU f.self.ups.length cU) (.slice AI f.self.infos.length cI) (.slice AS f.states.length cS) (.int .i64 f.mx) (.int .i64 f.dl) := ⟨_, rfl⟩
  have S := Lib.hid (show Bx w2 w.heap.size 29 #[.int .i64 f.self.id, .slice AC f.self.costs.length cC, .slice AU f.self.ups.length cU, .slice AI f.self.infos.length cI, .slice AS f.states.length cS, .int .i64 f.mx, .int .i64 f.dl] by rw [hw2]; exact set7_bx S_w1.out)
  have B2 : Below w.heap.size w w2 := by rw [hw2]; exact set7_bel B_w1 (Nat.le_refl _)
  unfold set7 at hw2
  rw [← hw2]
  clear hw2 B_w1 S_w1 z0_w1
  have Fr := Lib.hid (hfr.below B2)
  have zS := S.out.lt
  clear hfr
  cases hfo : f.ok with
  | false =>
    have cT := Lib.hid fun (W : World) (h : TreeR W f AC cC AU cU AI cI AS cS) => C.tick_no (w := W) hfo ⟨h, hfl⟩
    have cL := Lib.hid fun (W : World) (h : TreeR W f AC cC AU cU AI cI AS cS) => C.link_no (w := W) (p := port) (up := up) hfo ⟨h, hfl⟩
    have cF := Lib.hid fun (W : World) (h : TreeR W f AC cC AU cU AI cI AS cS) => C.fwd_no (w := W) hfo ⟨h, hfl⟩
    have cR := Lib.hid fun (W : World) (h : TreeR W f AC cC AU cU AI cI AS cS) => rright_to (w := W) hfo ⟨h, hfl⟩
    replace hfo := Lib.hid hfo
    have o_S_0 := S.out.c (i := 0) rfl
    have o_S_1 := S.out.c (i := 1) rfl
    have o_S_2 := S.out.c (i := 2) rfl
    have o_S_3 := S.out.c (i := 3) rfl
    have o_S_4 := S.out.c (i := 4) rfl
    have o_S_5 := S.out.c (i := 5) rfl
    have o_S_6 := S.out.c (i := 6) rfl
    go_wp2_with fail
    clear o_S_0 o_S_1 o_S_2 o_S_3 o_S_4 o_S_5 o_S_6
    go_at_call 16
    (with_reducible refine (cT.out _ Fr.out).mono ?_)
    rintro e w3 ⟨ACn, cCn, AUn, cUn, AIn, cIn, ASn, cSn, AD, cD, rfl, trn, rdn, hb3, _⟩
    have S_w3 := Lib.hid (S.out.below hb3)
    have F_w3 := Lib.hid (Fr.out.below hb3)
    have Nt_w3 := Lib.hid (trn)
    have z0_w3 : w.heap.size < w3.heap.size := Nat.lt_of_lt_of_le zS hb3.size
    have B_w3 := bt B2 hb3
    clear S Fr zS B2 hb3
    clear trn rdn cT
    go_upto_region 3 with fail
    obtain ⟨w4, hw4⟩ : ∃ W, W = w3.alloc (.cells #[.int .i64 0, .slice ACn 0 cCn, .slice AUn 0 cUn, .slice AIn 0 cIn, .slice ASn 0 cSn, .int .i64 0, .int .i64 0] 29) := ⟨_, rfl⟩
    have bw4 : Below w3.heap.size w3 w4 := by rw [hw4]; exact (Below.refl _ _).alloc (Nat.le_refl _) _
    have Xw4 : Bx w4 w3.heap.size 29 #[.int .i64 0, .slice ACn 0 cCn, .slice AUn 0 cUn, .slice AIn 0 cIn, .slice ASn 0 cSn, .int .i64 0, .int .i64 0] := by rw [hw4]; exact Bx.new _ _ _ rfl
    rw [← hw4]
    clear hw4
    have S_w4 := Lib.hid (S_w3.out.below bw4)
    have F_w4 := Lib.hid (F_w3.out.below bw4)
    have Nt_w4 := Lib.hid (Nt_w3.out.below bw4)
    have BA_w4 := Lib.hid (Xw4)
    have z0_w4 : w.heap.size < w4.heap.size := Nat.lt_of_lt_of_le z0_w3 bw4.size
    have B_w4 := bt B_w3 bw4
    clear S_w3 F_w3 Nt_w3 z0_w3 B_w3 bw4
    have z1_w4 : w3.heap.size < w4.heap.size := Xw4.lt
    clear Xw4
    have o_S_0 := S_w4.out.c (i := 0) rfl
    have o_S_1 := S_w4.out.c (i := 1) rfl
    have o_S_2 := S_w4.out.c (i := 2) rfl
    have o_S_3 := S_w4.out.c (i := 3) rfl
    have o_S_4 := S_w4.out.c (i := 4) rfl
    have o_S_5 := S_w4.out.c (i := 5) rfl
    have o_S_6 := S_w4.out.c (i := 6) rfl
    go_wp2_with fail
    clear o_S_0 o_S_1 o_S_2 o_S_3 o_S_4 o_S_5 o_S_6
    go_at_call 17
    (with_reducible refine (cL.out _ F_w4.out).mono ?_)
    rintro e w5 ⟨ACh, cCh, AUh, cUh, AIh, cIh, ASh, cSh, rfl, trh, hb5, _⟩
    have S_w5 := Lib.hid (S_w4.out.below hb5)
    have F_w5 := Lib.hid (F_w4.out.below hb5)
    have Nt_w5 := Lib.hid (Nt_w4.out.below hb5)
    have BA_w5 := Lib.hid (BA_w4.out.below hb5)
    have Ht_w5 := Lib.hid (trh)
    have z0_w5 : w.heap.size < w5.heap.size := Nat.lt_of_lt_of_le z0_w4 hb5.size
    have z1_w5 : w3.heap.size < w5.heap.size := Nat.lt_of_lt_of_le z1_w4 hb5.size
    have B_w5 := bt B_w4 hb5
    clear S_w4 F_w4 Nt_w4 BA_w4 z0_w4 z1_w4 B_w4 hb5
    clear trh cL
    go_upto_region 4 with fail
    obtain ⟨w6, hw6⟩ : ∃ W, W = w5.alloc (.cells #[.int .i64 0, .slice ACh 0 cCh, .slice AUh 0 cUh, .slice AIh 0 cIh, .slice ASh 0 cSh, .int .i64 0, .int .i64 0] 29) := ⟨_, rfl⟩
    have bw6 : Below w5.heap.size w5 w6 := by rw [hw6]; exact (Below.refl _ _).alloc (Nat.le_refl _) _
    have Xw6 : Bx w6 w5.heap.size 29 #[.int .i64 0, .slice ACh 0 cCh, .slice AUh 0 cUh, .slice AIh 0 cIh, .slice ASh 0 cSh, .int .i64 0, .int .i64 0] := by rw [hw6]; exact Bx.new _ _ _ rfl
    rw [← hw6]
    clear hw6
    have S_w6 := Lib.hid (S_w5.out.below bw6)
    have F_w6 := Lib.hid (F_w5.out.below bw6)
    have Nt_w6 := Lib.hid (Nt_w5.out.below bw6)
    have BA_w6 := Lib.hid (BA_w5.out.below bw6)
    have Ht_w6 := Lib.hid (Ht_w5.out.below bw6)
    have BB_w6 := Lib.hid (Xw6)
    have z0_w6 : w.heap.size < w6.heap.size := Nat.lt_of_lt_of_le z0_w5 bw6.size
    have z1_w6 : w3.heap.size < w6.heap.size := Nat.lt_of_lt_of_le z1_w5 bw6.size
    have B_w6 := bt B_w5 bw6
    clear S_w5 F_w5 Nt_w5 BA_w5 Ht_w5 z0_w5 z1_w5 B_w5 bw6
    have z2_w6 : w5.heap.size < w6.heap.size := Xw6.lt
    clear Xw6
    have o_S_0 := S_w6.out.c (i := 0) rfl
    have o_S_1 := S_w6.out.c (i := 1) rfl
    have o_S_2 := S_w6.out.c (i := 2) rfl
    have o_S_3 := S_w6.out.c (i := 3) rfl
    have o_S_4 := S_w6.out.c (i := 4) rfl
    have o_S_5 := S_w6.out.c (i := 5) rfl
    have o_S_6 := S_w6.out.c (i := 6) rfl
    go_wp2_with fail
    clear o_S_0 o_S_1 o_S_2 o_S_3 o_S_4 o_S_5 o_S_6
    go_at_call 18
    (with_reducible refine (cF.out _ F_w6.out).mono ?_)
    rintro e w7 ⟨AW, cW, rfl, hb7⟩
    have S_w7 := Lib.hid (S_w6.out.below hb7)
    have F_w7 := Lib.hid (F_w6.out.below hb7)
    have Nt_w7 := Lib.hid (Nt_w6.out.below hb7)
    have BA_w7 := Lib.hid (BA_w6.out.below hb7)
    have Ht_w7 := Lib.hid (Ht_w6.out.below hb7)
    have BB_w7 := Lib.hid (BB_w6.out.below hb7)
    have z0_w7 : w.heap.size < w7.heap.size := Nat.lt_of_lt_of_le z0_w6 hb7.size
    have z1_w7 : w3.heap.size < w7.heap.size := Nat.lt_of_lt_of_le z1_w6 hb7.size
    have z2_w7 : w5.heap.size < w7.heap.size := Nat.lt_of_lt_of_le z2_w6 hb7.size
    have B_w7 := bt B_w6 hb7
    clear S_w6 F_w6 Nt_w6 BA_w6 Ht_w6 BB_w6 z0_w6 z1_w6 z2_w6 B_w6 hb7
    clear cF
    go_upto_region 6 with fail
    obtain ⟨w8, hw8⟩ : ∃ W, W = w7.alloc (.cells #[.int .i64 0, .slice none 0 0, .slice none 0 0, .slice none 0 0, .slice none 0 0, .int .i64 0, .int .i64 0] 29) := ⟨_, rfl⟩
    have bw8 : Below w7.heap.size w7 w8 := by rw [hw8]; exact (Below.refl _ _).alloc (Nat.le_refl _) _
    have Xw8 : Bx w8 w7.heap.size 29 #[.int .i64 0, .slice none 0 0, .slice none 0 0, .slice none 0 0, .slice none 0 0, .int .i64 0, .int .i64 0] := by rw [hw8]; exact Bx.new _ _ _ rfl
    rw [← hw8]
    clear hw8
    have S_w8 := Lib.hid (S_w7.out.below bw8)
    have F_w8 := Lib.hid (F_w7.out.below bw8)
    have Nt_w8 := Lib.hid (Nt_w7.out.below bw8)
    have BA_w8 := Lib.hid (BA_w7.out.below bw8)
    have Ht_w8 := Lib.hid (Ht_w7.out.below bw8)
    have BB_w8 := Lib.hid (BB_w7.out.below bw8)
    have BZ_w8 := Lib.hid (Xw8)
    have z0_w8 : w.heap.size < w8.heap.size := Nat.lt_of_lt_of_le z0_w7 bw8.size
    have z1_w8 : w3.heap.size < w8.heap.size := Nat.lt_of_lt_of_le z1_w7 bw8.size
    have z2_w8 : w5.heap.size < w8.heap.size := Nat.lt_of_lt_of_le z2_w7 bw8.size
    have B_w8 := bt B_w7 bw8
    clear S_w7 F_w7 Nt_w7 BA_w7 Ht_w7 BB_w7 z0_w7 z1_w7 z2_w7 B_w7 bw8
    have z3_w8 : w7.heap.size < w8.heap.size := Xw8.lt
    clear Xw8
    have o_S_0 := S_w8.out.c (i := 0) rfl
    have o_S_1 := S_w8.out.c (i := 1) rfl
    have o_S_2 := S_w8.out.c (i := 2) rfl
    have o_S_3 := S_w8.out.c (i := 3) rfl
    have o_S_4 := S_w8.out.c (i := 4) rfl
    have o_S_5 := S_w8.out.c (i := 5) rfl
    have o_S_6 := S_w8.out.c (i := 6) rfl
    go_wp2_with fail
    clear o_S_0 o_S_1 o_S_2 o_S_3 o_S_4 o_S_5 o_S_6
    go_at_call 10
    (with_reducible refine (cR.out _ F_w8.out).mono ?_)
    rintro e w9 ⟨rfl, hb9⟩
    have S_w9 := Lib.hid (S_w8.out.below hb9)
    have F_w9 := Lib.hid (F_w8.out.below hb9)
    have Nt_w9 := Lib.hid (Nt_w8.out.below hb9)
    have BA_w9 := Lib.hid (BA_w8.out.below hb9)
    have Ht_w9 := Lib.hid (Ht_w8.out.below hb9)
    have BB_w9 := Lib.hid (BB_w8.out.below hb9)
    have BZ_w9 := Lib.hid (BZ_w8.out.below hb9)
    have z0_w9 : w.heap.size < w9.heap.size := Nat.lt_of_lt_of_le z0_w8 hb9.size
    have z1_w9 : w3.heap.size < w9.heap.size := Nat.lt_of_lt_of_le z1_w8 hb9.size
    have z2_w9 : w5.heap.size < w9.heap.size := Nat.lt_of_lt_of_le z2_w8 hb9.size
    have z3_w9 : w7.heap.size < w9.heap.size := Nat.lt_of_lt_of_le z3_w8 hb9.size
    have B_w9 := bt B_w8 hb9
    clear S_w8 F_w8 Nt_w8 BA_w8 Ht_w8 BB_w8 BZ_w8 z0_w8 z1_w8 z2_w8 z3_w8 B_w8 hb9
    go_wp2_with fail
    go_at_call 11
    (with_reducible refine (cA.out _).mono ?_)
    rintro e w10 ⟨rfl, hb10⟩
    have S_w10 := Lib.hid (S_w9.out.below hb10)
    have F_w10 := Lib.hid (F_w9.out.below hb10)
    have Nt_w10 := Lib.hid (Nt_w9.out.below hb10)
    have BA_w10 := Lib.hid (BA_w9.out.below hb10)
    have Ht_w10 := Lib.hid (Ht_w9.out.below hb10)
    have BB_w10 := Lib.hid (BB_w9.out.below hb10)
    have BZ_w10 := Lib.hid (BZ_w9.out.below hb10)
    have z0_w10 : w.heap.size < w10.heap.size := Nat.lt_of_lt_of_le z0_w9 hb10.size
    have z1_w10 : w3.heap.size < w10.heap.size := Nat.lt_of_lt_of_le z1_w9 hb10.size
    have z2_w10 : w5.heap.size < w10.heap.size := Nat.lt_of_lt_of_le z2_w9 hb10.size
    have z3_w10 : w7.heap.size < w10.heap.size := Nat.lt_of_lt_of_le z3_w9 hb10.size
    have B_w10 := bt B_w9 hb10
    clear S_w9 F_w9 Nt_w9 BA_w9 Ht_w9 BB_w9 BZ_w9 z0_w9 z1_w9 z2_w9 z3_w9 B_w9 hb10
    have o_BA_0 := BA_w10.out.c (i := 0) rfl
    have o_BA_1 := BA_w10.out.c (i := 1) rfl
    have o_BA_2 := BA_w10.out.c (i := 2) rfl
    have o_BA_3 := BA_w10.out.c (i := 3) rfl
    have o_BA_4 := BA_w10.out.c (i := 4) rfl
    have o_BA_5 := BA_w10.out.c (i := 5) rfl
    have o_BA_6 := BA_w10.out.c (i := 6) rfl
    have o_BZ_0 := BZ_w10.out.c (i := 0) rfl
    have o_BZ_1 := BZ_w10.out.c (i := 1) rfl
    have o_BZ_2 := BZ_w10.out.c (i := 2) rfl
    have o_BZ_3 := BZ_w10.out.c (i := 3) rfl
    have o_BZ_4 := BZ_w10.out.c (i := 4) rfl
    have o_BZ_5 := BZ_w10.out.c (i := 5) rfl
    have o_BZ_6 := BZ_w10.out.c (i := 6) rfl
    go_wp2_with fail
    clear o_BA_0 o_BA_1 o_BA_2 o_BA_3 o_BA_4 o_BA_5 o_BA_6 o_BZ_0 o_BZ_1 o_BZ_2 o_BZ_3 o_BZ_4 o_BZ_5 o_BZ_6
    go_at_call 13
    (with_reducible refine (same_zero Nt_w10.out).mono ?_)
    rintro e w11 ⟨rfl, hb11⟩
    have S_w11 := Lib.hid (S_w10.out.below hb11)
    have F_w11 := Lib.hid (F_w10.out.below hb11)
    have Nt_w11 := Lib.hid (Nt_w10.out.below hb11)
    have BA_w11 := Lib.hid (BA_w10.out.below hb11)
    have Ht_w11 := Lib.hid (Ht_w10.out.below hb11)
    have BB_w11 := Lib.hid (BB_w10.out.below hb11)
    have BZ_w11 := Lib.hid (BZ_w10.out.below hb11)
    have z0_w11 : w.heap.size < w11.heap.size := Nat.lt_of_lt_of_le z0_w10 hb11.size
    have z1_w11 : w3.heap.size < w11.heap.size := Nat.lt_of_lt_of_le z1_w10 hb11.size
    have z2_w11 : w5.heap.size < w11.heap.size := Nat.lt_of_lt_of_le z2_w10 hb11.size
    have z3_w11 : w7.heap.size < w11.heap.size := Nat.lt_of_lt_of_le z3_w10 hb11.size
    have B_w11 := bt B_w10 hb11
    clear S_w10 F_w10 Nt_w10 BA_w10 Ht_w10 BB_w10 BZ_w10 z0_w10 z1_w10 z2_w10 z3_w10 B_w10 hb11
    have o_BB_0 := BB_w11.out.c (i := 0) rfl
    have o_BB_1 := BB_w11.out.c (i := 1) rfl
    have o_BB_2 := BB_w11.out.c (i := 2) rfl
    have o_BB_3 := BB_w11.out.c (i := 3) rfl
    have o_BB_4 := BB_w11.out.c (i := 4) rfl
    have o_BB_5 := BB_w11.out.c (i := 5) rfl
    have o_BB_6 := BB_w11.out.c (i := 6) rfl
    have o_BZ_0 := BZ_w11.out.c (i := 0) rfl
    have o_BZ_1 := BZ_w11.out.c (i := 1) rfl
    have o_BZ_2 := BZ_w11.out.c (i := 2) rfl
    have o_BZ_3 := BZ_w11.out.c (i := 3) rfl
    have o_BZ_4 := BZ_w11.out.c (i := 4) rfl
    have o_BZ_5 := BZ_w11.out.c (i := 5) rfl
    have o_BZ_6 := BZ_w11.out.c (i := 6) rfl
    go_wp2_with fail
    clear o_BB_0 o_BB_1 o_BB_2 o_BB_3 o_BB_4 o_BB_5 o_BB_6 o_BZ_0 o_BZ_1 o_BZ_2 o_BZ_3 o_BZ_4 o_BZ_5 o_BZ_6
    go_at_call 13
    (with_reducible refine (same_zero Ht_w11.out).mono ?_)
    rintro e w12 ⟨rfl, hb12⟩
    have S_w12 := Lib.hid (S_w11.out.below hb12)
    have F_w12 := Lib.hid (F_w11.out.below hb12)
    have Nt_w12 := Lib.hid (Nt_w11.out.below hb12)
    have BA_w12 := Lib.hid (BA_w11.out.below hb12)
    have Ht_w12 := Lib.hid (Ht_w11.out.below hb12)
    have BB_w12 := Lib.hid (BB_w11.out.below hb12)
    have BZ_w12 := Lib.hid (BZ_w11.out.below hb12)
    have z0_w12 : w.heap.size < w12.heap.size := Nat.lt_of_lt_of_le z0_w11 hb12.size
    have z1_w12 : w3.heap.size < w12.heap.size := Nat.lt_of_lt_of_le z1_w11 hb12.size
    have z2_w12 : w5.heap.size < w12.heap.size := Nat.lt_of_lt_of_le z2_w11 hb12.size
    have z3_w12 : w7.heap.size < w12.heap.size := Nat.lt_of_lt_of_le z3_w11 hb12.size
    have B_w12 := bt B_w11 hb12
    clear S_w11 F_w11 Nt_w11 BA_w11 Ht_w11 BB_w11 BZ_w11 z0_w11 z1_w11 z2_w11 z3_w11 B_w11 hb12
    go_wp2_with fail
    go_ret
    exact ⟨rfl, B_w12⟩
  | true =>
    obtain ⟨lt, le, cL, hll, hlw⟩ := link_any C (AC := AC) (cC := cC) (AU := AU) (cU := cU) (AI := AI) (cI := cI) (AS := AS) (cS := cS) hfo hfl port up
    have cT := Lib.hid fun (W : World) (h : TreeR W f AC cC AU cU AI cI AS cS) => C.tick_ok (w := W) hfo ⟨h, hfl⟩
    have cRT := Lib.hid fun (W : World) (h : TreeR W f AC cC AU cU AI cI AS cS) => r_tickT (w := W) hfo h
    have cF := Lib.hid fun (W : World) (h : TreeR W f AC cC AU cU AI cI AS cS) => C.fwd_ok (w := W) hfo ⟨h, hfl⟩
    have cRF := Lib.hid fun (W : World) (h : TreeR W f AC cC AU cU AI cI AS cS) => r_fwd (w := W) hfl.s h
    have cR := Lib.hid fun (W : World) (h : TreeR W f AC cC AU cU AI cI AS cS) => rright_to (w := W) hfo ⟨h, hfl⟩
    have htl := tick_len hfl
    have hsl : f.tick.sends.length ≤ 1000 := Nat.le_trans (sends_len _ _) htl.s
    have hwl : f.fwd.length ≤ 1000 := Nat.le_trans (fwd_len _ _) hfl.s
    obtain ⟨tk, htk⟩ : ∃ u, f.tick = u := ⟨_, rfl⟩
    rw [htk] at cT cRT htl hsl
    obtain ⟨sd, hsd⟩ : ∃ u, tk.sends = u := ⟨_, rfl⟩
    rw [hsd] at cT cRT hsl
    obtain ⟨fw, hfw⟩ : ∃ u, f.fwd = u := ⟨_, rfl⟩
    rw [hfw] at cF cRF hwl
    replace cL := Lib.hid cL
    replace hlw := Lib.hid hlw
    replace htk := Lib.hid htk
    replace hsd := Lib.hid hsd
    replace hfw := Lib.hid hfw
    have o_S_0 := S.out.c (i := 0) rfl
    have o_S_1 := S.out.c (i := 1) rfl
    have o_S_2 := S.out.c (i := 2) rfl
    have o_S_3 := S.out.c (i := 3) rfl
    have o_S_4 := S.out.c (i := 4) rfl
    have o_S_5 := S.out.c (i := 5) rfl
    have o_S_6 := S.out.c (i := 6) rfl
    go_wp2_with fail
    clear o_S_0 o_S_1 o_S_2 o_S_3 o_S_4 o_S_5 o_S_6
    go_at_call 16
    (with_reducible refine (cT.out _ Fr.out).mono ?_)
    rintro e w3 ⟨ACn, cCn, AUn, cUn, AIn, cIn, ASn, cSn, AD, cD, rfl, trn, rdn, hb3, _⟩
    have S_w3 := Lib.hid (S.out.below hb3)
    have F_w3 := Lib.hid (Fr.out.below hb3)
    have Nt_w3 := Lib.hid (trn)
    have Nd_w3 := Lib.hid (rdn)
    have z0_w3 : w.heap.size < w3.heap.size := Nat.lt_of_lt_of_le zS hb3.size
    have B_w3 := bt B2 hb3
    clear S Fr zS B2 hb3
    clear trn rdn cT
    go_upto_region 3 with fail
    obtain ⟨w4, hw4⟩ : ∃ W, W = w3.alloc (.cells #[.int .i64 tk.self.id, .slice ACn tk.self.costs.length cCn, .slice AUn tk.self.ups.length cUn, .slice AIn tk.self.infos.length cIn, .slice ASn tk.states.length cSn, .int .i64 tk.mx, .int .i64 tk.dl] 29) := ⟨_, rfl⟩
    have bw4 : Below w3.heap.size w3 w4 := by rw [hw4]; exact (Below.refl _ _).alloc (Nat.le_refl _) _
    have Xw4 : Bx w4 w3.heap.size 29 #[.int .i64 tk.self.id, .slice ACn tk.self.costs.length cCn, .slice AUn tk.self.ups.length cUn, .slice AIn tk.self.infos.length cIn, .slice ASn tk.states.length cSn, .int .i64 tk.mx, .int .i64 tk.dl] := by rw [hw4]; exact Bx.new _ _ _ rfl
    rw [← hw4]
    clear hw4
    have S_w4 := Lib.hid (S_w3.out.below bw4)
    have F_w4 := Lib.hid (F_w3.out.below bw4)
    have Nt_w4 := Lib.hid (Nt_w3.out.below bw4)
    have Nd_w4 := Lib.hid (Nd_w3.out.below bw4)
    have BA_w4 := Lib.hid (Xw4)
    have z0_w4 : w.heap.size < w4.heap.size := Nat.lt_of_lt_of_le z0_w3 bw4.size
    have B_w4 := bt B_w3 bw4
    clear S_w3 F_w3 Nt_w3 Nd_w3 z0_w3 B_w3 bw4
    have z1_w4 : w3.heap.size < w4.heap.size := Xw4.lt
    clear Xw4
    have o_S_0 := S_w4.out.c (i := 0) rfl
    have o_S_1 := S_w4.out.c (i := 1) rfl
    have o_S_2 := S_w4.out.c (i := 2) rfl
    have o_S_3 := S_w4.out.c (i := 3) rfl
    have o_S_4 := S_w4.out.c (i := 4) rfl
    have o_S_5 := S_w4.out.c (i := 5) rfl
    have o_S_6 := S_w4.out.c (i := 6) rfl
    go_wp2_with fail
    clear o_S_0 o_S_1 o_S_2 o_S_3 o_S_4 o_S_5 o_S_6
    go_at_call 17
    (with_reducible refine (cL.out _ F_w4.out).mono ?_)
    rintro e w5 ⟨ACh, cCh, AUh, cUh, AIh, cIh, ASh, cSh, rfl, trh, hb5, _⟩
    have S_w5 := Lib.hid (S_w4.out.below hb5)
    have F_w5 := Lib.hid (F_w4.out.below hb5)
    have Nt_w5 := Lib.hid (Nt_w4.out.below hb5)
    have Nd_w5 := Lib.hid (Nd_w4.out.below hb5)
    have BA_w5 := Lib.hid (BA_w4.out.below hb5)
    have Ht_w5 := Lib.hid (trh)
    have z0_w5 : w.heap.size < w5.heap.size := Nat.lt_of_lt_of_le z0_w4 hb5.size
    have z1_w5 : w3.heap.size < w5.heap.size := Nat.lt_of_lt_of_le z1_w4 hb5.size
    have B_w5 := bt B_w4 hb5
    clear S_w4 F_w4 Nt_w4 Nd_w4 BA_w4 z0_w4 z1_w4 B_w4 hb5
    clear trh cL
    go_upto_region 4 with fail
    obtain ⟨w6, hw6⟩ : ∃ W, W = w5.alloc (.cells #[.int .i64 lt.self.id, .slice ACh lt.self.costs.length cCh, .slice AUh lt.self.ups.length cUh, .slice AIh lt.self.infos.length cIh, .slice ASh lt.states.length cSh, .int .i64 lt.mx, .int .i64 lt.dl] 29) := ⟨_, rfl⟩
    have bw6 : Below w5.heap.size w5 w6 := by rw [hw6]; exact (Below.refl _ _).alloc (Nat.le_refl _) _
    have Xw6 : Bx w6 w5.heap.size 29 #[.int .i64 lt.self.id, .slice ACh lt.self.costs.length cCh, .slice AUh lt.self.ups.length cUh, .slice AIh lt.self.infos.length cIh, .slice ASh lt.states.length cSh, .int .i64 lt.mx, .int .i64 lt.dl] := by rw [hw6]; exact Bx.new _ _ _ rfl
    rw [← hw6]
    clear hw6
    have S_w6 := Lib.hid (S_w5.out.below bw6)
    have F_w6 := Lib.hid (F_w5.out.below bw6)
    have Nt_w6 := Lib.hid (Nt_w5.out.below bw6)
    have Nd_w6 := Lib.hid (Nd_w5.out.below bw6)
    have BA_w6 := Lib.hid (BA_w5.out.below bw6)
    have Ht_w6 := Lib.hid (Ht_w5.out.below bw6)
    have BB_w6 := Lib.hid (Xw6)
    have z0_w6 : w.heap.size < w6.heap.size := Nat.lt_of_lt_of_le z0_w5 bw6.size
    have z1_w6 : w3.heap.size < w6.heap.size := Nat.lt_of_lt_of_le z1_w5 bw6.size
    have B_w6 := bt B_w5 bw6
    clear S_w5 F_w5 Nt_w5 Nd_w5 BA_w5 Ht_w5 z0_w5 z1_w5 B_w5 bw6
    have z2_w6 : w5.heap.size < w6.heap.size := Xw6.lt
    clear Xw6
    have o_S_0 := S_w6.out.c (i := 0) rfl
    have o_S_1 := S_w6.out.c (i := 1) rfl
    have o_S_2 := S_w6.out.c (i := 2) rfl
    have o_S_3 := S_w6.out.c (i := 3) rfl
    have o_S_4 := S_w6.out.c (i := 4) rfl
    have o_S_5 := S_w6.out.c (i := 5) rfl
    have o_S_6 := S_w6.out.c (i := 6) rfl
    go_wp2_with fail
    clear o_S_0 o_S_1 o_S_2 o_S_3 o_S_4 o_S_5 o_S_6
    go_at_call 18
    (with_reducible refine (cF.out _ F_w6.out).mono ?_)
    rintro e w7 ⟨AW, cW, rfl, rw9, hb7⟩
    have S_w7 := Lib.hid (S_w6.out.below hb7)
    have F_w7 := Lib.hid (F_w6.out.below hb7)
    have Nt_w7 := Lib.hid (Nt_w6.out.below hb7)
    have Nd_w7 := Lib.hid (Nd_w6.out.below hb7)
    have BA_w7 := Lib.hid (BA_w6.out.below hb7)
    have Ht_w7 := Lib.hid (Ht_w6.out.below hb7)
    have BB_w7 := Lib.hid (BB_w6.out.below hb7)
    have Wr_w7 := Lib.hid (rw9)
    have z0_w7 : w.heap.size < w7.heap.size := Nat.lt_of_lt_of_le z0_w6 hb7.size
    have z1_w7 : w3.heap.size < w7.heap.size := Nat.lt_of_lt_of_le z1_w6 hb7.size
    have z2_w7 : w5.heap.size < w7.heap.size := Nat.lt_of_lt_of_le z2_w6 hb7.size
    have B_w7 := bt B_w6 hb7
    clear S_w6 F_w6 Nt_w6 Nd_w6 BA_w6 Ht_w6 BB_w6 z0_w6 z1_w6 z2_w6 B_w6 hb7
    clear rw9 cF
    go_upto_region 6 with fail
    obtain ⟨w8, hw8⟩ : ∃ W, W = w7.alloc (.cells #[.int .i64 0, .slice none 0 0, .slice none 0 0, .slice none 0 0, .slice none 0 0, .int .i64 0, .int .i64 0] 29) := ⟨_, rfl⟩
    have bw8 : Below w7.heap.size w7 w8 := by rw [hw8]; exact (Below.refl _ _).alloc (Nat.le_refl _) _
    have Xw8 : Bx w8 w7.heap.size 29 #[.int .i64 0, .slice none 0 0, .slice none 0 0, .slice none 0 0, .slice none 0 0, .int .i64 0, .int .i64 0] := by rw [hw8]; exact Bx.new _ _ _ rfl
    rw [← hw8]
    clear hw8
    have S_w8 := Lib.hid (S_w7.out.below bw8)
    have F_w8 := Lib.hid (F_w7.out.below bw8)
    have Nt_w8 := Lib.hid (Nt_w7.out.below bw8)
    have Nd_w8 := Lib.hid (Nd_w7.out.below bw8)
    have BA_w8 := Lib.hid (BA_w7.out.below bw8)
    have Ht_w8 := Lib.hid (Ht_w7.out.below bw8)
    have BB_w8 := Lib.hid (BB_w7.out.below bw8)
    have Wr_w8 := Lib.hid (Wr_w7.out.below bw8)
    have BZ_w8 := Lib.hid (Xw8)
    have z0_w8 : w.heap.size < w8.heap.size := Nat.lt_of_lt_of_le z0_w7 bw8.size
    have z1_w8 : w3.heap.size < w8.heap.size := Nat.lt_of_lt_of_le z1_w7 bw8.size
    have z2_w8 : w5.heap.size < w8.heap.size := Nat.lt_of_lt_of_le z2_w7 bw8.size
    have B_w8 := bt B_w7 bw8
    clear S_w7 F_w7 Nt_w7 Nd_w7 BA_w7 Ht_w7 BB_w7 Wr_w7 z0_w7 z1_w7 z2_w7 B_w7 bw8
    have z3_w8 : w7.heap.size < w8.heap.size := Xw8.lt
    clear Xw8
    have o_S_0 := S_w8.out.c (i := 0) rfl
    have o_S_1 := S_w8.out.c (i := 1) rfl
    have o_S_2 := S_w8.out.c (i := 2) rfl
    have o_S_3 := S_w8.out.c (i := 3) rfl
    have o_S_4 := S_w8.out.c (i := 4) rfl
    have o_S_5 := S_w8.out.c (i := 5) rfl
    have o_S_6 := S_w8.out.c (i := 6) rfl
    go_wp2_with fail
    clear o_S_0 o_S_1 o_S_2 o_S_3 o_S_4 o_S_5 o_S_6
    go_at_call 10
    (with_reducible refine (cR.out _ F_w8.out).mono ?_)
    rintro e w9 ⟨rfl, hb9⟩
    have S_w9 := Lib.hid (S_w8.out.below hb9)
    have F_w9 := Lib.hid (F_w8.out.below hb9)
    have Nt_w9 := Lib.hid (Nt_w8.out.below hb9)
    have Nd_w9 := Lib.hid (Nd_w8.out.below hb9)
    have BA_w9 := Lib.hid (BA_w8.out.below hb9)
    have Ht_w9 := Lib.hid (Ht_w8.out.below hb9)
    have BB_w9 := Lib.hid (BB_w8.out.below hb9)
    have Wr_w9 := Lib.hid (Wr_w8.out.below hb9)
    have BZ_w9 := Lib.hid (BZ_w8.out.below hb9)
    have z0_w9 : w.heap.size < w9.heap.size := Nat.lt_of_lt_of_le z0_w8 hb9.size
    have z1_w9 : w3.heap.size < w9.heap.size := Nat.lt_of_lt_of_le z1_w8 hb9.size
    have z2_w9 : w5.heap.size < w9.heap.size := Nat.lt_of_lt_of_le z2_w8 hb9.size
    have z3_w9 : w7.heap.size < w9.heap.size := Nat.lt_of_lt_of_le z3_w8 hb9.size
    have B_w9 := bt B_w8 hb9
    clear S_w8 F_w8 Nt_w8 Nd_w8 BA_w8 Ht_w8 BB_w8 Wr_w8 BZ_w8 z0_w8 z1_w8 z2_w8 z3_w8 B_w8 hb9
    have o_S_0 := S_w9.out.c (i := 0) rfl
    have o_S_1 := S_w9.out.c (i := 1) rfl
    have o_S_2 := S_w9.out.c (i := 2) rfl
    have o_S_3 := S_w9.out.c (i := 3) rfl
    have o_S_4 := S_w9.out.c (i := 4) rfl
    have o_S_5 := S_w9.out.c (i := 5) rfl
    have o_S_6 := S_w9.out.c (i := 6) rfl
    go_wp2_with fail
    clear o_S_0 o_S_1 o_S_2 o_S_3 o_S_4 o_S_5 o_S_6
    go_at_call 19
    (with_reducible refine (cRT.out _ F_w9.out).mono ?_)
    rintro e w10 ⟨ACx, cCx, AUx, cUx, AIx, cIx, ASx, cSx, ADx, cDx, rfl, trx, rdx, hb10, _⟩
    have S_w10 := Lib.hid (S_w9.out.below hb10)
    have F_w10 := Lib.hid (F_w9.out.below hb10)
    have Nt_w10 := Lib.hid (Nt_w9.out.below hb10)
    have Nd_w10 := Lib.hid (Nd_w9.out.below hb10)
    have BA_w10 := Lib.hid (BA_w9.out.below hb10)
    have Ht_w10 := Lib.hid (Ht_w9.out.below hb10)
    have BB_w10 := Lib.hid (BB_w9.out.below hb10)
    have Wr_w10 := Lib.hid (Wr_w9.out.below hb10)
    have BZ_w10 := Lib.hid (BZ_w9.out.below hb10)
    have Xt_w10 := Lib.hid (trx)
    have Xd_w10 := Lib.hid (rdx)
    have z0_w10 : w.heap.size < w10.heap.size := Nat.lt_of_lt_of_le z0_w9 hb10.size
    have z1_w10 : w3.heap.size < w10.heap.size := Nat.lt_of_lt_of_le z1_w9 hb10.size
    have z2_w10 : w5.heap.size < w10.heap.size := Nat.lt_of_lt_of_le z2_w9 hb10.size
    have z3_w10 : w7.heap.size < w10.heap.size := Nat.lt_of_lt_of_le z3_w9 hb10.size
    have B_w10 := bt B_w9 hb10
    clear S_w9 F_w9 Nt_w9 Nd_w9 BA_w9 Ht_w9 BB_w9 Wr_w9 BZ_w9 z0_w9 z1_w9 z2_w9 z3_w9 B_w9 hb10
    clear trx rdx cRT
    go_upto_region 9 with fail
    obtain ⟨w11, hw11⟩ : ∃ W, W = w10.alloc (.cells #[.int .i64 tk.self.id, .slice ACx tk.self.costs.length cCx, .slice AUx tk.self.ups.length cUx, .slice AIx tk.self.infos.length cIx, .slice ASx tk.states.length cSx, .int .i64 tk.mx, .int .i64 tk.dl] 29) := ⟨_, rfl⟩
    have bw11 : Below w10.heap.size w10 w11 := by rw [hw11]; exact (Below.refl _ _).alloc (Nat.le_refl _) _
    have Xw11 : Bx w11 w10.heap.size 29 #[.int .i64 tk.self.id, .slice ACx tk.self.costs.length cCx, .slice AUx tk.self.ups.length cUx, .slice AIx tk.self.infos.length cIx, .slice ASx tk.states.length cSx, .int .i64 tk.mx, .int .i64 tk.dl] := by rw [hw11]; exact Bx.new _ _ _ rfl
    rw [← hw11]
    clear hw11
    have S_w11 := Lib.hid (S_w10.out.below bw11)
    have F_w11 := Lib.hid (F_w10.out.below bw11)
    have Nt_w11 := Lib.hid (Nt_w10.out.below bw11)
    have Nd_w11 := Lib.hid (Nd_w10.out.below bw11)
    have BA_w11 := Lib.hid (BA_w10.out.below bw11)
    have Ht_w11 := Lib.hid (Ht_w10.out.below bw11)
    have BB_w11 := Lib.hid (BB_w10.out.below bw11)
    have Wr_w11 := Lib.hid (Wr_w10.out.below bw11)
    have BZ_w11 := Lib.hid (BZ_w10.out.below bw11)
    have Xt_w11 := Lib.hid (Xt_w10.out.below bw11)
    have Xd_w11 := Lib.hid (Xd_w10.out.below bw11)
    have BX_w11 := Lib.hid (Xw11)
    have z0_w11 : w.heap.size < w11.heap.size := Nat.lt_of_lt_of_le z0_w10 bw11.size
    have z1_w11 : w3.heap.size < w11.heap.size := Nat.lt_of_lt_of_le z1_w10 bw11.size
    have z2_w11 : w5.heap.size < w11.heap.size := Nat.lt_of_lt_of_le z2_w10 bw11.size
    have z3_w11 : w7.heap.size < w11.heap.size := Nat.lt_of_lt_of_le z3_w10 bw11.size
    have B_w11 := bt B_w10 bw11
    clear S_w10 F_w10 Nt_w10 Nd_w10 BA_w10 Ht_w10 BB_w10 Wr_w10 BZ_w10 Xt_w10 Xd_w10 z0_w10 z1_w10 z2_w10 z3_w10 B_w10 bw11
    have z4_w11 : w10.heap.size < w11.heap.size := Xw11.lt
    clear Xw11
    have o_BA_0 := BA_w11.out.c (i := 0) rfl
    have o_BA_1 := BA_w11.out.c (i := 1) rfl
    have o_BA_2 := BA_w11.out.c (i := 2) rfl
    have o_BA_3 := BA_w11.out.c (i := 3) rfl
    have o_BA_4 := BA_w11.out.c (i := 4) rfl
    have o_BA_5 := BA_w11.out.c (i := 5) rfl
    have o_BA_6 := BA_w11.out.c (i := 6) rfl
    have o_BX_0 := BX_w11.out.c (i := 0) rfl
    have o_BX_1 := BX_w11.out.c (i := 1) rfl
    have o_BX_2 := BX_w11.out.c (i := 2) rfl
    have o_BX_3 := BX_w11.out.c (i := 3) rfl
    have o_BX_4 := BX_w11.out.c (i := 4) rfl
    have o_BX_5 := BX_w11.out.c (i := 5) rfl
    have o_BX_6 := BX_w11.out.c (i := 6) rfl
    go_wp2_with fail
    clear o_BA_0 o_BA_1 o_BA_2 o_BA_3 o_BA_4 o_BA_5 o_BA_6 o_BX_0 o_BX_1 o_BX_2 o_BX_3 o_BX_4 o_BX_5 o_BX_6
    go_at_call 13
    (with_reducible refine (r12_same htl Nt_w11.out Xt_w11.out).mono ?_)
    rintro e w12 ⟨rfl, hb12⟩
    have S_w12 := Lib.hid (S_w11.out.below hb12)
    have F_w12 := Lib.hid (F_w11.out.below hb12)
    have Nt_w12 := Lib.hid (Nt_w11.out.below hb12)
    have Nd_w12 := Lib.hid (Nd_w11.out.below hb12)
    have BA_w12 := Lib.hid (BA_w11.out.below hb12)
    have Ht_w12 := Lib.hid (Ht_w11.out.below hb12)
    have BB_w12 := Lib.hid (BB_w11.out.below hb12)
    have Wr_w12 := Lib.hid (Wr_w11.out.below hb12)
    have BZ_w12 := Lib.hid (BZ_w11.out.below hb12)
    have Xt_w12 := Lib.hid (Xt_w11.out.below hb12)
    have Xd_w12 := Lib.hid (Xd_w11.out.below hb12)
    have BX_w12 := Lib.hid (BX_w11.out.below hb12)
    have z0_w12 : w.heap.size < w12.heap.size := Nat.lt_of_lt_of_le z0_w11 hb12.size
    have z1_w12 : w3.heap.size < w12.heap.size := Nat.lt_of_lt_of_le z1_w11 hb12.size
    have z2_w12 : w5.heap.size < w12.heap.size := Nat.lt_of_lt_of_le z2_w11 hb12.size
    have z3_w12 : w7.heap.size < w12.heap.size := Nat.lt_of_lt_of_le z3_w11 hb12.size
    have z4_w12 : w10.heap.size < w12.heap.size := Nat.lt_of_lt_of_le z4_w11 hb12.size
    have B_w12 := bt B_w11 hb12
    clear S_w11 F_w11 Nt_w11 Nd_w11 BA_w11 Ht_w11 BB_w11 Wr_w11 BZ_w11 Xt_w11 Xd_w11 BX_w11 z0_w11 z1_w11 z2_w11 z3_w11 z4_w11 B_w11 hb12
    go_wp2_with fail
    go_at_call 20
    (with_reducible refine (r_sends Nd_w12.out Xd_w12.out hsl).mono ?_)
    rintro e w13 ⟨rfl, hb13⟩
    have S_w13 := Lib.hid (S_w12.out.below hb13)
    have F_w13 := Lib.hid (F_w12.out.below hb13)
    have Nt_w13 := Lib.hid (Nt_w12.out.below hb13)
    have Nd_w13 := Lib.hid (Nd_w12.out.below hb13)
    have BA_w13 := Lib.hid (BA_w12.out.below hb13)
    have Ht_w13 := Lib.hid (Ht_w12.out.below hb13)
    have BB_w13 := Lib.hid (BB_w12.out.below hb13)
    have Wr_w13 := Lib.hid (Wr_w12.out.below hb13)
    have BZ_w13 := Lib.hid (BZ_w12.out.below hb13)
    have Xt_w13 := Lib.hid (Xt_w12.out.below hb13)
    have Xd_w13 := Lib.hid (Xd_w12.out.below hb13)
    have BX_w13 := Lib.hid (BX_w12.out.below hb13)
    have z0_w13 : w.heap.size < w13.heap.size := Nat.lt_of_lt_of_le z0_w12 hb13.size
    have z1_w13 : w3.heap.size < w13.heap.size := Nat.lt_of_lt_of_le z1_w12 hb13.size
    have z2_w13 : w5.heap.size < w13.heap.size := Nat.lt_of_lt_of_le z2_w12 hb13.size
    have z3_w13 : w7.heap.size < w13.heap.size := Nat.lt_of_lt_of_le z3_w12 hb13.size
    have z4_w13 : w10.heap.size < w13.heap.size := Nat.lt_of_lt_of_le z4_w12 hb13.size
    have B_w13 := bt B_w12 hb13
    clear S_w12 F_w12 Nt_w12 Nd_w12 BA_w12 Ht_w12 BB_w12 Wr_w12 BZ_w12 Xt_w12 Xd_w12 BX_w12 z0_w12 z1_w12 z2_w12 z3_w12 z4_w12 B_w12 hb13
    have o_S_0 := S_w13.out.c (i := 0) rfl
    have o_S_1 := S_w13.out.c (i := 1) rfl
    have o_S_2 := S_w13.out.c (i := 2) rfl
    have o_S_3 := S_w13.out.c (i := 3) rfl
    have o_S_4 := S_w13.out.c (i := 4) rfl
    have o_S_5 := S_w13.out.c (i := 5) rfl
    have o_S_6 := S_w13.out.c (i := 6) rfl
    go_wp2_with fail
    clear o_S_0 o_S_1 o_S_2 o_S_3 o_S_4 o_S_5 o_S_6
    go_at_call 22
    (with_reducible refine (cRF.out _ F_w13.out).mono ?_)
    rintro e w14 ⟨AV, cV, rfl, rv9, hb14⟩
    have S_w14 := Lib.hid (S_w13.out.below hb14)
    have F_w14 := Lib.hid (F_w13.out.below hb14)
    have Nt_w14 := Lib.hid (Nt_w13.out.below hb14)
    have Nd_w14 := Lib.hid (Nd_w13.out.below hb14)
    have BA_w14 := Lib.hid (BA_w13.out.below hb14)
    have Ht_w14 := Lib.hid (Ht_w13.out.below hb14)
    have BB_w14 := Lib.hid (BB_w13.out.below hb14)
    have Wr_w14 := Lib.hid (Wr_w13.out.below hb14)
    have BZ_w14 := Lib.hid (BZ_w13.out.below hb14)
    have Xt_w14 := Lib.hid (Xt_w13.out.below hb14)
    have Xd_w14 := Lib.hid (Xd_w13.out.below hb14)
    have BX_w14 := Lib.hid (BX_w13.out.below hb14)
    have Vr_w14 := Lib.hid (rv9)
    have z0_w14 : w.heap.size < w14.heap.size := Nat.lt_of_lt_of_le z0_w13 hb14.size
    have z1_w14 : w3.heap.size < w14.heap.size := Nat.lt_of_lt_of_le z1_w13 hb14.size
    have z2_w14 : w5.heap.size < w14.heap.size := Nat.lt_of_lt_of_le z2_w13 hb14.size
    have z3_w14 : w7.heap.size < w14.heap.size := Nat.lt_of_lt_of_le z3_w13 hb14.size
    have z4_w14 : w10.heap.size < w14.heap.size := Nat.lt_of_lt_of_le z4_w13 hb14.size
    have B_w14 := bt B_w13 hb14
    clear S_w13 F_w13 Nt_w13 Nd_w13 BA_w13 Ht_w13 BB_w13 Wr_w13 BZ_w13 Xt_w13 Xd_w13 BX_w13 z0_w13 z1_w13 z2_w13 z3_w13 z4_w13 B_w13 hb14
    clear rv9
    go_wp2_with fail
    go_at_call 21
    (with_reducible refine (same_ints Wr_w14.out Vr_w14.out rfl hwl).mono ?_)
    rintro e w15 ⟨rfl, hb15⟩
    have S_w15 := Lib.hid (S_w14.out.below hb15)
    have F_w15 := Lib.hid (F_w14.out.below hb15)
    have Nt_w15 := Lib.hid (Nt_w14.out.below hb15)
    have Nd_w15 := Lib.hid (Nd_w14.out.below hb15)
    have BA_w15 := Lib.hid (BA_w14.out.below hb15)
    have Ht_w15 := Lib.hid (Ht_w14.out.below hb15)
    have BB_w15 := Lib.hid (BB_w14.out.below hb15)
    have Wr_w15 := Lib.hid (Wr_w14.out.below hb15)
    have BZ_w15 := Lib.hid (BZ_w14.out.below hb15)
    have Xt_w15 := Lib.hid (Xt_w14.out.below hb15)
    have Xd_w15 := Lib.hid (Xd_w14.out.below hb15)
    have BX_w15 := Lib.hid (BX_w14.out.below hb15)
    have Vr_w15 := Lib.hid (Vr_w14.out.below hb15)
    have z0_w15 : w.heap.size < w15.heap.size := Nat.lt_of_lt_of_le z0_w14 hb15.size
    have z1_w15 : w3.heap.size < w15.heap.size := Nat.lt_of_lt_of_le z1_w14 hb15.size
    have z2_w15 : w5.heap.size < w15.heap.size := Nat.lt_of_lt_of_le z2_w14 hb15.size
    have z3_w15 : w7.heap.size < w15.heap.size := Nat.lt_of_lt_of_le z3_w14 hb15.size
    have z4_w15 : w10.heap.size < w15.heap.size := Nat.lt_of_lt_of_le z4_w14 hb15.size
    have B_w15 := bt B_w14 hb15
    clear S_w14 F_w14 Nt_w14 Nd_w14 BA_w14 Ht_w14 BB_w14 Wr_w14 BZ_w14 Xt_w14 Xd_w14 BX_w14 Vr_w14 z0_w14 z1_w14 z2_w14 z3_w14 z4_w14 B_w14 hb15
    go_wp2_with fail
    go_at_call 11
    (with_reducible refine (cA.out _).mono ?_)
    rintro e w16 ⟨rfl, hb16⟩
    have S_w16 := Lib.hid (S_w15.out.below hb16)
    have F_w16 := Lib.hid (F_w15.out.below hb16)
    have Nt_w16 := Lib.hid (Nt_w15.out.below hb16)
    have Nd_w16 := Lib.hid (Nd_w15.out.below hb16)
    have BA_w16 := Lib.hid (BA_w15.out.below hb16)
    have Ht_w16 := Lib.hid (Ht_w15.out.below hb16)
    have BB_w16 := Lib.hid (BB_w15.out.below hb16)
    have Wr_w16 := Lib.hid (Wr_w15.out.below hb16)
    have BZ_w16 := Lib.hid (BZ_w15.out.below hb16)
    have Xt_w16 := Lib.hid (Xt_w15.out.below hb16)
    have Xd_w16 := Lib.hid (Xd_w15.out.below hb16)
    have BX_w16 := Lib.hid (BX_w15.out.below hb16)
    have Vr_w16 := Lib.hid (Vr_w15.out.below hb16)
    have z0_w16 : w.heap.size < w16.heap.size := Nat.lt_of_lt_of_le z0_w15 hb16.size
    have z1_w16 : w3.heap.size < w16.heap.size := Nat.lt_of_lt_of_le z1_w15 hb16.size
    have z2_w16 : w5.heap.size < w16.heap.size := Nat.lt_of_lt_of_le z2_w15 hb16.size
    have z3_w16 : w7.heap.size < w16.heap.size := Nat.lt_of_lt_of_le z3_w15 hb16.size
    have z4_w16 : w10.heap.size < w16.heap.size := Nat.lt_of_lt_of_le z4_w15 hb16.size
    have B_w16 := bt B_w15 hb16
    clear S_w15 F_w15 Nt_w15 Nd_w15 BA_w15 Ht_w15 BB_w15 Wr_w15 BZ_w15 Xt_w15 Xd_w15 BX_w15 Vr_w15 z0_w15 z1_w15 z2_w15 z3_w15 z4_w15 B_w15 hb16
    rcases hlw.out with ⟨hpr, rfl, rfl⟩ | ⟨k, rfl, hkl, rfl, rfl⟩
    · by_cases hp0 : port < 0
      · replace hpr := Lib.hid hpr
        have o_S_0 := S_w16.out.c (i := 0) rfl
        have o_S_1 := S_w16.out.c (i := 1) rfl
        have o_S_2 := S_w16.out.c (i := 2) rfl
        have o_S_3 := S_w16.out.c (i := 3) rfl
        have o_S_4 := S_w16.out.c (i := 4) rfl
        have o_S_5 := S_w16.out.c (i := 5) rfl
        have o_S_6 := S_w16.out.c (i := 6) rfl
        have o_BB_0 := BB_w16.out.c (i := 0) rfl
        have o_BB_1 := BB_w16.out.c (i := 1) rfl
        have o_BB_2 := BB_w16.out.c (i := 2) rfl
        have o_BB_3 := BB_w16.out.c (i := 3) rfl
        have o_BB_4 := BB_w16.out.c (i := 4) rfl
        have o_BB_5 := BB_w16.out.c (i := 5) rfl
        have o_BB_6 := BB_w16.out.c (i := 6) rfl
        have o_BZ_0 := BZ_w16.out.c (i := 0) rfl
        have o_BZ_1 := BZ_w16.out.c (i := 1) rfl
        have o_BZ_2 := BZ_w16.out.c (i := 2) rfl
        have o_BZ_3 := BZ_w16.out.c (i := 3) rfl
        have o_BZ_4 := BZ_w16.out.c (i := 4) rfl
        have o_BZ_5 := BZ_w16.out.c (i := 5) rfl
        have o_BZ_6 := BZ_w16.out.c (i := 6) rfl
        go_wp2_with fail
        clear o_S_0 o_S_1 o_S_2 o_S_3 o_S_4 o_S_5 o_S_6 o_BB_0 o_BB_1 o_BB_2 o_BB_3 o_BB_4 o_BB_5 o_BB_6 o_BZ_0 o_BZ_1 o_BZ_2 o_BZ_3 o_BZ_4 o_BZ_5 o_BZ_6
        go_at_call 13
        (with_reducible refine (same_zero Ht_w16.out).mono ?_)
        rintro e w17 ⟨rfl, hb17⟩
        have S_w17 := Lib.hid (S_w16.out.below hb17)
        have F_w17 := Lib.hid (F_w16.out.below hb17)
        have Nt_w17 := Lib.hid (Nt_w16.out.below hb17)
        have Nd_w17 := Lib.hid (Nd_w16.out.below hb17)
        have BA_w17 := Lib.hid (BA_w16.out.below hb17)
        have Ht_w17 := Lib.hid (Ht_w16.out.below hb17)
        have BB_w17 := Lib.hid (BB_w16.out.below hb17)
        have Wr_w17 := Lib.hid (Wr_w16.out.below hb17)
        have BZ_w17 := Lib.hid (BZ_w16.out.below hb17)
        have Xt_w17 := Lib.hid (Xt_w16.out.below hb17)
        have Xd_w17 := Lib.hid (Xd_w16.out.below hb17)
        have BX_w17 := Lib.hid (BX_w16.out.below hb17)
        have Vr_w17 := Lib.hid (Vr_w16.out.below hb17)
        have z0_w17 : w.heap.size < w17.heap.size := Nat.lt_of_lt_of_le z0_w16 hb17.size
        have z1_w17 : w3.heap.size < w17.heap.size := Nat.lt_of_lt_of_le z1_w16 hb17.size
        have z2_w17 : w5.heap.size < w17.heap.size := Nat.lt_of_lt_of_le z2_w16 hb17.size
        have z3_w17 : w7.heap.size < w17.heap.size := Nat.lt_of_lt_of_le z3_w16 hb17.size
        have z4_w17 : w10.heap.size < w17.heap.size := Nat.lt_of_lt_of_le z4_w16 hb17.size
        have B_w17 := bt B_w16 hb17
        clear S_w16 F_w16 Nt_w16 Nd_w16 BA_w16 Ht_w16 BB_w16 Wr_w16 BZ_w16 Xt_w16 Xd_w16 BX_w16 Vr_w16 z0_w16 z1_w16 z2_w16 z3_w16 z4_w16 B_w16 hb17
        go_wp2_with fail
        go_ret
        exact ⟨rfl, B_w17⟩
      · have hp1 : (f.states.length : Int) ≤ port := by omega
        replace hpr := Lib.hid hpr
        have o_S_0 := S_w16.out.c (i := 0) rfl
        have o_S_1 := S_w16.out.c (i := 1) rfl
        have o_S_2 := S_w16.out.c (i := 2) rfl
        have o_S_3 := S_w16.out.c (i := 3) rfl
        have o_S_4 := S_w16.out.c (i := 4) rfl
        have o_S_5 := S_w16.out.c (i := 5) rfl
        have o_S_6 := S_w16.out.c (i := 6) rfl
        have o_BB_0 := BB_w16.out.c (i := 0) rfl
        have o_BB_1 := BB_w16.out.c (i := 1) rfl
        have o_BB_2 := BB_w16.out.c (i := 2) rfl
        have o_BB_3 := BB_w16.out.c (i := 3) rfl
        have o_BB_4 := BB_w16.out.c (i := 4) rfl
        have o_BB_5 := BB_w16.out.c (i := 5) rfl
        have o_BB_6 := BB_w16.out.c (i := 6) rfl
        have o_BZ_0 := BZ_w16.out.c (i := 0) rfl
        have o_BZ_1 := BZ_w16.out.c (i := 1) rfl
        have o_BZ_2 := BZ_w16.out.c (i := 2) rfl
        have o_BZ_3 := BZ_w16.out.c (i := 3) rfl
        have o_BZ_4 := BZ_w16.out.c (i := 4) rfl
        have o_BZ_5 := BZ_w16.out.c (i := 5) rfl
        have o_BZ_6 := BZ_w16.out.c (i := 6) rfl
        go_wp2_with fail
        clear o_S_0 o_S_1 o_S_2 o_S_3 o_S_4 o_S_5 o_S_6 o_BB_0 o_BB_1 o_BB_2 o_BB_3 o_BB_4 o_BB_5 o_BB_6 o_BZ_0 o_BZ_1 o_BZ_2 o_BZ_3 o_BZ_4 o_BZ_5 o_BZ_6
        go_at_call 13
        (with_reducible refine (same_zero Ht_w16.out).mono ?_)
        rintro e w17 ⟨rfl, hb17⟩
        have S_w17 := Lib.hid (S_w16.out.below hb17)
        have F_w17 := Lib.hid (F_w16.out.below hb17)
        have Nt_w17 := Lib.hid (Nt_w16.out.below hb17)
        have Nd_w17 := Lib.hid (Nd_w16.out.below hb17)
        have BA_w17 := Lib.hid (BA_w16.out.below hb17)
        have Ht_w17 := Lib.hid (Ht_w16.out.below hb17)
        have BB_w17 := Lib.hid (BB_w16.out.below hb17)
        have Wr_w17 := Lib.hid (Wr_w16.out.below hb17)
        have BZ_w17 := Lib.hid (BZ_w16.out.below hb17)
        have Xt_w17 := Lib.hid (Xt_w16.out.below hb17)
        have Xd_w17 := Lib.hid (Xd_w16.out.below hb17)
        have BX_w17 := Lib.hid (BX_w16.out.below hb17)
        have Vr_w17 := Lib.hid (Vr_w16.out.below hb17)
        have z0_w17 : w.heap.size < w17.heap.size := Nat.lt_of_lt_of_le z0_w16 hb17.size
        have z1_w17 : w3.heap.size < w17.heap.size := Nat.lt_of_lt_of_le z1_w16 hb17.size
        have z2_w17 : w5.heap.size < w17.heap.size := Nat.lt_of_lt_of_le z2_w16 hb17.size
        have z3_w17 : w7.heap.size < w17.heap.size := Nat.lt_of_lt_of_le z3_w16 hb17.size
        have z4_w17 : w10.heap.size < w17.heap.size := Nat.lt_of_lt_of_le z4_w16 hb17.size
        have B_w17 := bt B_w16 hb17
        clear S_w16 F_w16 Nt_w16 Nd_w16 BA_w16 Ht_w16 BB_w16 Wr_w16 BZ_w16 Xt_w16 Xd_w16 BX_w16 Vr_w16 z0_w16 z1_w16 z2_w16 z3_w16 z4_w16 B_w16 hb17
        go_wp2_with fail
        go_ret
        exact ⟨rfl, B_w17⟩
    · have hp0 : ¬ (k : Int) < 0 := by omega
      have hp1 : ¬ (f.states.length : Int) ≤ (k : Int) := by omega
      have cRL := Lib.hid fun (W : World) (h : TreeR W f AC cC AU cU AI cI AS cS) => r_link (w := W) (up := up) hfo hkl h
      have o_S_0 := S_w16.out.c (i := 0) rfl
      have o_S_1 := S_w16.out.c (i := 1) rfl
      have o_S_2 := S_w16.out.c (i := 2) rfl
      have o_S_3 := S_w16.out.c (i := 3) rfl
      have o_S_4 := S_w16.out.c (i := 4) rfl
      have o_S_5 := S_w16.out.c (i := 5) rfl
      have o_S_6 := S_w16.out.c (i := 6) rfl
      go_upto_region 13 with fail
      clear o_S_0 o_S_1 o_S_2 o_S_3 o_S_4 o_S_5 o_S_6
      have o_S_0 := S_w16.out.c (i := 0) rfl
      have o_S_1 := S_w16.out.c (i := 1) rfl
      have o_S_2 := S_w16.out.c (i := 2) rfl
      have o_S_3 := S_w16.out.c (i := 3) rfl
      have o_S_4 := S_w16.out.c (i := 4) rfl
      have o_S_5 := S_w16.out.c (i := 5) rfl
      have o_S_6 := S_w16.out.c (i := 6) rfl
      have o_BB_0 := BB_w16.out.c (i := 0) rfl
      have o_BB_1 := BB_w16.out.c (i := 1) rfl
      have o_BB_2 := BB_w16.out.c (i := 2) rfl
      have o_BB_3 := BB_w16.out.c (i := 3) rfl
      have o_BB_4 := BB_w16.out.c (i := 4) rfl
      have o_BB_5 := BB_w16.out.c (i := 5) rfl
      have o_BB_6 := BB_w16.out.c (i := 6) rfl
      refine wp_region_opsG (by kernel_rfl) (fun ix => match ix with | 0 => 124 | 1 => 125 | 2 => 126 | 3 => 127 | 4 => 128 | 5 => 129 | 6 => 130 | 7 => 131 | 8 => 132 | 9 => 133 | 10 => 6 | _ => 0) [(2, true)] (by kernel_rfl) (by kernel_rfl) (fun i v W => match i with | 0 => v = .int .i64 0 | 1 => v = .bool true | 2 => v = .bool true | 3 => v = tv (f.link k up) ACh cCh AUh cUh AIh cIh ASh cSh | 4 => v = tv f AC cC AU cU AI cI AS cS | 5 => v = .int .i64 k | 6 => v = .bool up | 7 => ∃ (a1 : Option Addr) (c1 : Nat) (a2 : Option Addr) (c2 : Nat) (a3 : Option Addr) (c3 : Nat) (a4 : Option Addr) (c4 : Nat), v = tv (f.link k up) a1 c1 a2 c2 a3 c3 a4 c4 ∧ TreeR W (f.link k up) a1 c1 a2 c2 a3 c3 a4 c4 | 8 => v = .bool true | 9 => v = .bool true | 10 => v = .bool true | _ => True) (fun i v W W' h hb => by
          match i with
          | 0 => exact h
          | 1 => exact h
          | 2 => exact h
          | 3 => exact h
          | 4 => exact h
          | 5 => exact h
          | 6 => exact h
          | 8 => exact h
          | 9 => exact h
          | 10 => exact h
          | 7 => obtain ⟨a1, c1, a2, c2, a3, c3, a4, c4, e9, tr9⟩ := h; exact ⟨a1, c1, a2, c2, a3, c3, a4, c4, e9, tr9.below hb⟩
          | n + 11 => exact trivial) (fun g hg v W h => by
          simp only [List.mem_singleton] at hg
          subst hg
          exact h) ?_ ?_
      refine ⟨?_, ?_, ?_, ?_, ?_, ?_, ?_, ?_, ?_, ?_, ?_, trivial⟩
      · as_aux_lemma =>
          intro a9 W2 K hb hdep hk hK
          replace hK : ∀ v w', (v = .int .i64 0) → Below W2.heap.size W2 w' → K (a9.put (some 124) v) w' := hK
          have d11 : a9.tmps.getD 11 undef = .int .i64 0 := hk 11 (by kernel_rfl)
          clear hdep hk hb
          go_simp
          exact hK _ _ rfl (Below.refl _ _)
      · as_aux_lemma =>
          intro a9 W2 K hb hdep hk hK
          replace hK : ∀ v w', (v = .bool true) → Below W2.heap.size W2 w' → K (a9.put (some 125) v) w' := hK
          have d124 : a9.tmps.getD 124 undef = .int .i64 0 := hdep ⟨0, .data⟩ (by simp) rfl
          clear hdep hk hb
          go_simp
          exact hK _ _ rfl (Below.refl _ _)
      · as_aux_lemma =>
          intro a9 W2 K hb hdep hk hK
          replace hK : ∀ v w', (v = .bool true) → Below W2.heap.size W2 w' → K (a9.put (some 126) v) w' := hK
          have d125 : a9.tmps.getD 125 undef = .bool true := hdep ⟨1, .data⟩ (by simp) rfl
          clear hdep hk hb
          go_simp
          exact hK _ _ rfl (Below.refl _ _)
      · as_aux_lemma =>
          intro a9 W2 K hb hdep hk hK
          replace hK : ∀ v w', (v = tv (f.link k up) ACh cCh AUh cUh AIh cIh ASh cSh) → Below W2.heap.size W2 w' → K (a9.put (some 127) v) w' := hK
          have d10 : a9.tmps.getD 10 undef = .pointer (some ⟨w5.heap.size, 0, none⟩) := hk 10 (by kernel_rfl)
          have t0 := (hb.cell (p := ⟨w5.heap.size, 0, none⟩) z2_w16).trans o_BB_0
          have t1 := (hb.cell (p := ⟨w5.heap.size, 1, none⟩) z2_w16).trans o_BB_1
          have t2 := (hb.cell (p := ⟨w5.heap.size, 2, none⟩) z2_w16).trans o_BB_2
          have t3 := (hb.cell (p := ⟨w5.heap.size, 3, none⟩) z2_w16).trans o_BB_3
          have t4 := (hb.cell (p := ⟨w5.heap.size, 4, none⟩) z2_w16).trans o_BB_4
          have t5 := (hb.cell (p := ⟨w5.heap.size, 5, none⟩) z2_w16).trans o_BB_5
          have t6 := (hb.cell (p := ⟨w5.heap.size, 6, none⟩) z2_w16).trans o_BB_6
          clear hdep hk hb
          go_simp
          exact hK _ _ rfl (Below.refl _ _)
      · as_aux_lemma =>
          intro a9 W2 K hb hdep hk hK
          replace hK : ∀ v w', (v = tv f AC cC AU cU AI cI AS cS) → Below W2.heap.size W2 w' → K (a9.put (some 128) v) w' := hK
          have d3 : a9.tmps.getD 3 undef = .pointer (some ⟨w.heap.size, 0, none⟩) := hk 3 (by kernel_rfl)
          have t0 := (hb.cell (p := ⟨w.heap.size, 0, none⟩) z0_w16).trans o_S_0
          have t1 := (hb.cell (p := ⟨w.heap.size, 1, none⟩) z0_w16).trans o_S_1
          have t2 := (hb.cell (p := ⟨w.heap.size, 2, none⟩) z0_w16).trans o_S_2
          have t3 := (hb.cell (p := ⟨w.heap.size, 3, none⟩) z0_w16).trans o_S_3
          have t4 := (hb.cell (p := ⟨w.heap.size, 4, none⟩) z0_w16).trans o_S_4
          have t5 := (hb.cell (p := ⟨w.heap.size, 5, none⟩) z0_w16).trans o_S_5
          have t6 := (hb.cell (p := ⟨w.heap.size, 6, none⟩) z0_w16).trans o_S_6
          clear hdep hk hb
          go_simp
          exact hK _ _ rfl (Below.refl _ _)
      · as_aux_lemma =>
          intro a9 W2 K hb hdep hk hK
          replace hK : ∀ v w', (v = .int .i64 k) → Below W2.heap.size W2 w' → K (a9.put (some 129) v) w' := hK
          have d1 : a9.tmps.getD 1 undef = .int .i64 k := hk 1 (by kernel_rfl)
          clear hdep hk hb
          go_simp
          exact hK _ _ rfl (Below.refl _ _)
      · as_aux_lemma =>
          intro a9 W2 K hb hdep hk hK
          replace hK : ∀ v w', (v = .bool up) → Below W2.heap.size W2 w' → K (a9.put (some 130) v) w' := hK
          have d2 : a9.tmps.getD 2 undef = .bool up := hk 2 (by kernel_rfl)
          clear hdep hk hb
          go_simp
          exact hK _ _ rfl (Below.refl _ _)
      · as_aux_lemma =>
          intro a9 W2 K hb hdep hk hK
          replace hK : ∀ v w', (∃ (a1 : Option Addr) (c1 : Nat) (a2 : Option Addr) (c2 : Nat) (a3 : Option Addr) (c3 : Nat) (a4 : Option Addr) (c4 : Nat), v = tv (f.link k up) a1 c1 a2 c2 a3 c3 a4 c4 ∧ TreeR w' (f.link k up) a1 c1 a2 c2 a3 c3 a4 c4) → Below W2.heap.size W2 w' → K (a9.put (some 131) v) w' := hK
          have d128 : a9.tmps.getD 128 undef = tv f AC cC AU cU AI cI AS cS := hdep ⟨4, .data⟩ (by simp) rfl
          have d129 : a9.tmps.getD 129 undef = .int .i64 k := hdep ⟨5, .data⟩ (by simp) rfl
          have d130 : a9.tmps.getD 130 undef = .bool up := hdep ⟨6, .data⟩ (by simp) rfl
          have hcall := cRL W2 (F_w16.out.below hb)
          clear hdep hk hb
          have q128 : a9.tmps[128]?.getD undef = tv f AC cC AU cU AI cI AS cS := by simpa [Array.getD_eq_getD_getElem?] using d128
          clear d128
          have q129 : a9.tmps[129]?.getD undef = .int .i64 k := by simpa [Array.getD_eq_getD_getElem?] using d129
          clear d129
          have q130 : a9.tmps[130]?.getD undef = .bool up := by simpa [Array.getD_eq_getD_getElem?] using d130
          clear d130
          go_simp
          refine hcall.mono ?_
          rintro e w9 ⟨a1, c1, a2, c2, a3, c3, a4, c4, rfl, tr9, r2, _⟩
          exact hK _ _ ⟨a1, c1, a2, c2, a3, c3, a4, c4, rfl, tr9⟩ r2
      · as_aux_lemma =>
          intro a9 W2 K hb hdep hk hK
          replace hK : ∀ v w', (v = .bool true) → Below W2.heap.size W2 w' → K (a9.put (some 132) v) w' := hK
          have d127 : a9.tmps.getD 127 undef = tv (f.link k up) ACh cCh AUh cUh AIh cIh ASh cSh := hdep ⟨3, .data⟩ (by simp) rfl
          obtain ⟨a1, c1, a2, c2, a3, c3, a4, c4, d131, tr9⟩ : ∃ (a1 : Option Addr) (c1 : Nat) (a2 : Option Addr) (c2 : Nat) (a3 : Option Addr) (c3 : Nat) (a4 : Option Addr) (c4 : Nat), a9.tmps.getD 131 undef = tv (f.link k up) a1 c1 a2 c2 a3 c3 a4 c4 ∧ TreeR W2 (f.link k up) a1 c1 a2 c2 a3 c3 a4 c4 := hdep ⟨7, .data⟩ (by simp) rfl
          have hcall := r12_same hll (Ht_w16.out.below hb) tr9
          clear hdep hk hb
          have q127 : a9.tmps[127]?.getD undef = tv (f.link k up) ACh cCh AUh cUh AIh cIh ASh cSh := by simpa [Array.getD_eq_getD_getElem?] using d127
          clear d127
          have q131 : a9.tmps[131]?.getD undef = tv (f.link k up) a1 c1 a2 c2 a3 c3 a4 c4 := by simpa [Array.getD_eq_getD_getElem?] using d131
          clear d131
          go_simp
          refine hcall.mono ?_
          rintro e w9 ⟨rfl, r2⟩
          exact hK _ _ rfl r2
      · as_aux_lemma =>
          intro a9 W2 K hb hdep hk hK
          replace hK : ∀ v w', (v = .bool true) → Below W2.heap.size W2 w' → K (a9.put (some 133) v) w' := hK
          have d126 : a9.tmps.getD 126 undef = .bool true := hdep ⟨2, .data⟩ (by simp) rfl
          have d132 : a9.tmps.getD 132 undef = .bool true := hdep ⟨8, .data⟩ (by simp) rfl
          clear hdep hk hb
          go_simp
          exact hK _ _ rfl (Below.refl _ _)
      · as_aux_lemma =>
          intro a9 W2 K hb hdep hk hK
          replace hK : ∀ v w', (v = .bool true) → Below W2.heap.size W2 w' → K (a9.put (some 6) v) w' := hK
          have d133 : a9.tmps.getD 133 undef = .bool true := hdep ⟨9, .data⟩ (by simp) rfl
          clear hdep hk hb
          go_simp
          exact hK _ _ rfl (Below.refl _ _)
      intro af w17 hqw17 hsp hk hn hdf
      have hx10 : af.tmps.getD 6 undef = .bool true := hsp 10 (by decide)
      clear hsp
      have s1 : af.tmps.getD 1 undef = .int .i64 k := hk 1 (by kernel_rfl)
      have s2 : af.tmps.getD 2 undef = .bool up := hk 2 (by kernel_rfl)
      have s3 : af.tmps.getD 3 undef = .pointer (some ⟨w.heap.size, 0, none⟩) := hk 3 (by kernel_rfl)
      have s10 : af.tmps.getD 10 undef = .pointer (some ⟨w5.heap.size, 0, none⟩) := hk 10 (by kernel_rfl)
      have s11 : af.tmps.getD 11 undef = .int .i64 0 := hk 11 (by kernel_rfl)
      have s6 : af.tmps.getD 6 undef = .bool true := hx10
      clear hk hx10
      obtain ⟨tm, df⟩ := af
      have e := arr_out tm 134 hn
      replace e : tm = #[tm.getD 0 undef, tm.getD 1 undef, tm.getD 2 undef, tm.getD 3 undef, tm.getD 4 undef, tm.getD 5 undef, tm.getD 6 undef, tm.getD 7 undef, tm.getD 8 undef, tm.getD 9 undef, tm.getD 10 undef, tm.getD 11 undef, tm.getD 12 undef, tm.getD 13 undef, tm.getD 14 undef, tm.getD 15 undef, tm.getD 16 undef, tm.getD 17 undef, tm.getD 18 undef, tm.getD 19 undef, tm.getD 20 undef, tm.getD 21 undef, tm.getD 22 undef, tm.getD 23 undef, tm.getD 24 undef, tm.getD 25 undef, tm.getD 26 undef, tm.getD 27 undef, tm.getD 28 undef, tm.getD 29 undef, tm.getD 30 undef, tm.getD 31 undef, tm.getD 32 undef, tm.getD 33 undef, tm.getD 34 undef, tm.getD 35 undef, tm.getD 36 undef, tm.getD 37 undef, tm.getD 38 undef, tm.getD 39 undef, tm.getD 40 undef, tm.getD 41 undef, tm.getD 42 undef, tm.getD 43 undef, tm.getD 44 undef, tm.getD 45 undef, tm.getD 46 undef, tm.getD 47 undef, tm.getD 48 undef, tm.getD 49 undef, tm.getD 50 undef, tm.getD 51 undef, tm.getD 52 undef, tm.getD 53 undef, tm.getD 54 undef, tm.getD 55 undef, tm.getD 56 undef, tm.getD 57 undef, tm.getD 58 undef, tm.getD 59 undef, tm.getD 60 undef, tm.getD 61 undef, tm.getD 62 undef, tm.getD 63 undef, tm.getD 64 undef, tm.getD 65 undef, tm.getD 66 undef, tm.getD 67 undef, tm.getD 68 undef, tm.getD 69 undef, tm.getD 70 undef, tm.getD 71 undef, tm.getD 72 undef, tm.getD 73 undef, tm.getD 74 undef, tm.getD 75 undef, tm.getD 76 undef, tm.getD 77 undef, tm.getD 78 undef, tm.getD 79 undef, tm.getD 80 undef, tm.getD 81 undef, tm.getD 82 undef, tm.getD 83 undef, tm.getD 84 undef, tm.getD 85 undef, tm.getD 86 undef, tm.getD 87 undef, tm.getD 88 undef, tm.getD 89 undef, tm.getD 90 undef, tm.getD 91 undef, tm.getD 92 undef, tm.getD 93 undef, tm.getD 94 undef, tm.getD 95 undef, tm.getD 96 undef, tm.getD 97 undef, tm.getD 98 undef, tm.getD 99 undef, tm.getD 100 undef, tm.getD 101 undef, tm.getD 102 undef, tm.getD 103 undef, tm.getD 104 undef, tm.getD 105 undef, tm.getD 106 undef, tm.getD 107 undef, tm.getD 108 undef, tm.getD 109 undef, tm.getD 110 undef, tm.getD 111 undef, tm.getD 112 undef, tm.getD 113 undef, tm.getD 114 undef, tm.getD 115 undef, tm.getD 116 undef, tm.getD 117 undef, tm.getD 118 undef, tm.getD 119 undef, tm.getD 120 undef, tm.getD 121 undef, tm.getD 122 undef, tm.getD 123 undef, tm.getD 124 undef, tm.getD 125 undef, tm.getD 126 undef, tm.getD 127 undef, tm.getD 128 undef, tm.getD 129 undef, tm.getD 130 undef, tm.getD 131 undef, tm.getD 132 undef, tm.getD 133 undef] := e
      simp only at s1 s2 s3 s10 s11 s6 hdf
      rw [s1, s2, s3, s10, s11, s6] at e
      subst hdf
      clear s1 s2 s3 s10 s11 s6 hn
      generalize tm.getD 0 undef = u0 at e
      generalize tm.getD 4 undef = u4 at e
      generalize tm.getD 5 undef = u5 at e
      generalize tm.getD 7 undef = u7 at e
      generalize tm.getD 8 undef = u8 at e
      generalize tm.getD 9 undef = u9 at e
      generalize tm.getD 12 undef = u12 at e
      generalize tm.getD 13 undef = u13 at e
      generalize tm.getD 14 undef = u14 at e
      generalize tm.getD 15 undef = u15 at e
      generalize tm.getD 16 undef = u16 at e
      generalize tm.getD 17 undef = u17 at e
      generalize tm.getD 18 undef = u18 at e
      generalize tm.getD 19 undef = u19 at e
      generalize tm.getD 20 undef = u20 at e
      generalize tm.getD 21 undef = u21 at e
      generalize tm.getD 22 undef = u22 at e
      generalize tm.getD 23 undef = u23 at e
      generalize tm.getD 24 undef = u24 at e
      generalize tm.getD 25 undef = u25 at e
      generalize tm.getD 26 undef = u26 at e
      generalize tm.getD 27 undef = u27 at e
      generalize tm.getD 28 undef = u28 at e
      generalize tm.getD 29 undef = u29 at e
      generalize tm.getD 30 undef = u30 at e
      generalize tm.getD 31 undef = u31 at e
      generalize tm.getD 32 undef = u32 at e
      generalize tm.getD 33 undef = u33 at e
      generalize tm.getD 34 undef = u34 at e
      generalize tm.getD 35 undef = u35 at e
      generalize tm.getD 36 undef = u36 at e
      generalize tm.getD 37 undef = u37 at e
      generalize tm.getD 38 undef = u38 at e
      generalize tm.getD 39 undef = u39 at e
      generalize tm.getD 40 undef = u40 at e
      generalize tm.getD 41 undef = u41 at e
      generalize tm.getD 42 undef = u42 at e
      generalize tm.getD 43 undef = u43 at e
      generalize tm.getD 44 undef = u44 at e
      generalize tm.getD 45 undef = u45 at e
      generalize tm.getD 46 undef = u46 at e
      generalize tm.getD 47 undef = u47 at e
      generalize tm.getD 48 undef = u48 at e
      generalize tm.getD 49 undef = u49 at e
      generalize tm.getD 50 undef = u50 at e
      generalize tm.getD 51 undef = u51 at e
      generalize tm.getD 52 undef = u52 at e
      generalize tm.getD 53 undef = u53 at e
      generalize tm.getD 54 undef = u54 at e
      generalize tm.getD 55 undef = u55 at e
      generalize tm.getD 56 undef = u56 at e
      generalize tm.getD 57 undef = u57 at e
      generalize tm.getD 58 undef = u58 at e
      generalize tm.getD 59 undef = u59 at e
      generalize tm.getD 60 undef = u60 at e
      generalize tm.getD 61 undef = u61 at e
      generalize tm.getD 62 undef = u62 at e
      generalize tm.getD 63 undef = u63 at e
      generalize tm.getD 64 undef = u64 at e
      generalize tm.getD 65 undef = u65 at e
      generalize tm.getD 66 undef = u66 at e
      generalize tm.getD 67 undef = u67 at e
      generalize tm.getD 68 undef = u68 at e
      generalize tm.getD 69 undef = u69 at e
      generalize tm.getD 70 undef = u70 at e
      generalize tm.getD 71 undef = u71 at e
      generalize tm.getD 72 undef = u72 at e
      generalize tm.getD 73 undef = u73 at e
      generalize tm.getD 74 undef = u74 at e
      generalize tm.getD 75 undef = u75 at e
      generalize tm.getD 76 undef = u76 at e
      generalize tm.getD 77 undef = u77 at e
      generalize tm.getD 78 undef = u78 at e
      generalize tm.getD 79 undef = u79 at e
      generalize tm.getD 80 undef = u80 at e
      generalize tm.getD 81 undef = u81 at e
      generalize tm.getD 82 undef = u82 at e
      generalize tm.getD 83 undef = u83 at e
      generalize tm.getD 84 undef = u84 at e
      generalize tm.getD 85 undef = u85 at e
      generalize tm.getD 86 undef = u86 at e
      generalize tm.getD 87 undef = u87 at e
      generalize tm.getD 88 undef = u88 at e
      generalize tm.getD 89 undef = u89 at e
      generalize tm.getD 90 undef = u90 at e
      generalize tm.getD 91 undef = u91 at e
      generalize tm.getD 92 undef = u92 at e
      generalize tm.getD 93 undef = u93 at e
      generalize tm.getD 94 undef = u94 at e
      generalize tm.getD 95 undef = u95 at e
      generalize tm.getD 96 undef = u96 at e
      generalize tm.getD 97 undef = u97 at e
      generalize tm.getD 98 undef = u98 at e
      generalize tm.getD 99 undef = u99 at e
      generalize tm.getD 100 undef = u100 at e
      generalize tm.getD 101 undef = u101 at e
      generalize tm.getD 102 undef = u102 at e
      generalize tm.getD 103 undef = u103 at e
      generalize tm.getD 104 undef = u104 at e
      generalize tm.getD 105 undef = u105 at e
      generalize tm.getD 106 undef = u106 at e
      generalize tm.getD 107 undef = u107 at e
      generalize tm.getD 108 undef = u108 at e
      generalize tm.getD 109 undef = u109 at e
      generalize tm.getD 110 undef = u110 at e
      generalize tm.getD 111 undef = u111 at e
      generalize tm.getD 112 undef = u112 at e
      generalize tm.getD 113 undef = u113 at e
      generalize tm.getD 114 undef = u114 at e
      generalize tm.getD 115 undef = u115 at e
      generalize tm.getD 116 undef = u116 at e
      generalize tm.getD 117 undef = u117 at e
      generalize tm.getD 118 undef = u118 at e
      generalize tm.getD 119 undef = u119 at e
      generalize tm.getD 120 undef = u120 at e
      generalize tm.getD 121 undef = u121 at e
      generalize tm.getD 122 undef = u122 at e
      generalize tm.getD 123 undef = u123 at e
      generalize tm.getD 124 undef = u124 at e
      generalize tm.getD 125 undef = u125 at e
      generalize tm.getD 126 undef = u126 at e
      generalize tm.getD 127 undef = u127 at e
      generalize tm.getD 128 undef = u128 at e
      generalize tm.getD 129 undef = u129 at e
      generalize tm.getD 130 undef = u130 at e
      generalize tm.getD 131 undef = u131 at e
      generalize tm.getD 132 undef = u132 at e
      generalize tm.getD 133 undef = u133 at e
      subst e
      have S_w17 := Lib.hid (S_w16.out.below hqw17)
      have F_w17 := Lib.hid (F_w16.out.below hqw17)
      have Nt_w17 := Lib.hid (Nt_w16.out.below hqw17)
      have Nd_w17 := Lib.hid (Nd_w16.out.below hqw17)
      have BA_w17 := Lib.hid (BA_w16.out.below hqw17)
      have Ht_w17 := Lib.hid (Ht_w16.out.below hqw17)
      have BB_w17 := Lib.hid (BB_w16.out.below hqw17)
      have Wr_w17 := Lib.hid (Wr_w16.out.below hqw17)
      have BZ_w17 := Lib.hid (BZ_w16.out.below hqw17)
      have Xt_w17 := Lib.hid (Xt_w16.out.below hqw17)
      have Xd_w17 := Lib.hid (Xd_w16.out.below hqw17)
      have BX_w17 := Lib.hid (BX_w16.out.below hqw17)
      have Vr_w17 := Lib.hid (Vr_w16.out.below hqw17)
      have z0_w17 : w.heap.size < w17.heap.size := Nat.lt_of_lt_of_le z0_w16 hqw17.size
      have z1_w17 : w3.heap.size < w17.heap.size := Nat.lt_of_lt_of_le z1_w16 hqw17.size
      have z2_w17 : w5.heap.size < w17.heap.size := Nat.lt_of_lt_of_le z2_w16 hqw17.size
      have z3_w17 : w7.heap.size < w17.heap.size := Nat.lt_of_lt_of_le z3_w16 hqw17.size
      have z4_w17 : w10.heap.size < w17.heap.size := Nat.lt_of_lt_of_le z4_w16 hqw17.size
      have B_w17 := bt B_w16 hqw17
      clear S_w16 F_w16 Nt_w16 Nd_w16 BA_w16 Ht_w16 BB_w16 Wr_w16 BZ_w16 Xt_w16 Xd_w16 BX_w16 Vr_w16 z0_w16 z1_w16 z2_w16 z3_w16 z4_w16 B_w16 hqw17
      simp only [Exit.then]
      clear o_S_0 o_S_1 o_S_2 o_S_3 o_S_4 o_S_5 o_S_6 o_BB_0 o_BB_1 o_BB_2 o_BB_3 o_BB_4 o_BB_5 o_BB_6
      go_wp2_with fail
      go_ret
      exact ⟨rfl, B_w17⟩
end Go.Proofs.Ytidoaccidmmalaa.StpP
