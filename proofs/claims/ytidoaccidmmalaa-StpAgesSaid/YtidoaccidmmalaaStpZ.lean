/-
  Contracts of stp.sendsOf, stp.Forwards.
-/
import Derived.Test.YtidoaccidmmalaaStpZI
import Derived.Test.YtidoaccidmmalaaStpI
import Derived.Test.YtidoaccidmmalaaRoleIE
import Derived.Test.YtidoaccidmmalaaStpK
import Derived.Test.YtidoaccidmmalaaRoleIB
namespace Go.Proofs.Ytidoaccidmmalaa.StpP
open Go.Proofs.Ytidoaccidmmalaa.MacP (arr_out Wrote wp_region_ends outM)
open Go.RowKit Go.Sort Go.Proofs.Ytidoaccidmmalaa.SliceP Go.Proofs.Ytidoaccidmmalaa.BoxP Go.Proofs.Ytidoaccidmmalaa.VecP Go.Proofs.Ytidoaccidmmalaa.RoleP
open Go.Proofs.Ytidoaccidmmalaa.IntP (RowI SlI OwnI)
open Go.Proofs.Ytidoaccidmmalaa.BoolP (RowB SlB OwnB)
open Go.Proofs.Ytidoaccidmmalaa.PortP (okS roleS tickS sv)
set_option linter.unusedVariables false
set_option maxRecDepth 100000
theorem tell_to {s : S} {AC : Option Addr} {cC : Nat} {AU : Option Addr} {cU : Nat} {AI : Option Addr} {cI : Nat} {w : World} {p : Nat} {m n : Int} {v : V} {b : Bool} (hok : s.ok = true) (hl : s.costs.length ≤ 1000 ∧ s.ups.length ≤ 1000 ∧ s.infos.length ≤ 1000) (hp : p < s.costs.length) (h1 : 1 ≤ m) (h2 : m ≤ 255) (hv : s.told p m = v) (hn : s.toldAge p m = n) (hb : s.tell p m = b) (hS : SelfR w s AC cC AU cU AI cI) : Calls Try.prog 73 #[selfV s.id (.slice AC s.costs.length cC) (.slice AU s.ups.length cU) (.slice AI s.infos.length cI), .int .i64 p, .int .i64 m] w fun e w' => e = .returned (.tuple #[cg v n, .bool b, .int .i64 0]) ∧ Below w.heap.size w w' := by
  have := o_tell_ok hok hp h1 h2 hl hS
  rwa [hv, hn, hb] at this
theorem may_to {x : Int × Int} {b2 b3 : Bool} (h : decide (x.1 = 2) = b2) (h' : decide (x.1 = 3) = b3) (w : World) : Calls Try.prog 54 #[.agg #[.int .i64 x.1, .int .i64 x.2]] w fun e w' => e = .returned (.tuple #[.bool (b2 || b3), .bool b3]) ∧ Below w.heap.size w w' := by
  have := PortP.p_may x.1 x.2 w
  rwa [h, h'] at this
set_option maxHeartbeats 16000000 in
theorem o_sends {t : T} {AC : Option Addr} {cC : Nat} {AU : Option Addr} {cU : Nat} {AI : Option Addr} {cI : Nat} {AS : Option Addr} {cS : Nat} {w : World} (hok : t.self.ok = true) (hsc : t.states.length = t.self.costs.length) (hm : 1 ≤ t.mx ∧ t.mx ≤ 255) (hl : Len t) (hR : TreeR w t AC cC AU cU AI cI AS cS) :
    Calls Try.prog 52 #[tv t AC cC AU cU AI cI AS cS] w fun e w' => ∃ A c, e = .returned (.slice A t.sends.length c) ∧ RowD w' A t.sends.length c t.sends ∧ (∀ a, A = some a → w.heap.size ≤ a.block) ∧ Below w.heap.size w w' := by
  obtain ⟨w0, hw0⟩ : ∃ W, W = w.alloc (.cells #[.int .i64 t.self.id, .slice AC t.self.costs.length cC, .slice AU t.self.ups.length cU, .slice AI t.self.infos.length cI, .slice AS t.states.length cS, .int .i64 t.mx, .int .i64 t.dl] 29) := ⟨_, rfl⟩
  have I := Lib.hid (show InT w w0 t AC cC AU cU AI cI AS cS by rw [hw0]; exact .new hR)
  have hl3 : t.self.costs.length ≤ 1000 ∧ t.self.ups.length ≤ 1000 ∧ t.self.infos.length ≤ 1000 := ⟨hl.c, hl.u, hl.n⟩
  have hls := hl.s
  have hok' := Lib.hid hok
  have hl3' := Lib.hid hl3
  have hsc' := Lib.hid hsc
  have hm' := Lib.hid hm
  have z0 := I.out.x.lt
  clear hR hok hsc hl hl3 hm
  go_enter Try.func52, Try.ntmps52
  go_upto_region 1 with fail
  rw [← hw0]
  clear hw0
  have o_0 := I.out.c (i := 0) rfl
  have o_1 := I.out.c (i := 1) rfl
  have o_2 := I.out.c (i := 2) rfl
  have o_3 := I.out.c (i := 3) rfl
  have o_4 := I.out.c (i := 4) rfl
  have o_5 := I.out.c (i := 5) rfl
  have o_6 := I.out.c (i := 6) rfl
  go_wp2_with fail
  clear o_0 o_1 o_2 o_3 o_4 o_5 o_6 z0
  go_loopw [3, 11] (fun v3 i wr => ∃ (k : Nat) (L : List Snd), k ≤ t.states.length ∧ i = .int .i64 k ∧ L = (List.range k).flatMap t.send ∧ OwnD wr w0.heap.size v3 L ∧ Below w0.heap.size w0 wr) (fun _ i _ => t.states.length - (intOf i).toNat)
  case atStart => exact ⟨0, [], by omega, rfl, rfl, Own.nil _ _ _ _, Below.refl _ _⟩
  case round =>
    obtain ⟨k, L, hk, rfl, hL, hown, hb⟩ := hrel
    obtain ⟨A3, c3, hv3⟩ := own_form hown
    subst hv3
    have Ir := Lib.hid (I.out.below hb)
    have hlenL := Lib.hid (show L.length ≤ k by rw [hL]; exact sends_len _ _)
    by_cases hkn : k < t.states.length
    · have hkl : (k : Int) < (t.states.length : Int) := by omega
      obtain ⟨v, hv⟩ : ∃ x, t.self.told k t.mx = x := ⟨_, rfl⟩
      obtain ⟨n, hn⟩ : ∃ x, t.self.toldAge k t.mx = x := ⟨_, rfl⟩
      obtain ⟨b, hb2⟩ : ∃ x, t.self.tell k t.mx = x := ⟨_, rfl⟩
      have hs := flat_succ t.send k
      rw [← hL] at hs
      unfold T.send at hs
      rw [hv, hn, hb2] at hs
      have cT := Lib.hid fun (W : World) (h : SelfR W t.self AC cC AU cU AI cI) => tell_to (w := W) hok'.out hl3'.out (by rw [← hsc'.out]; exact hkn) hm'.out.1 hm'.out.2 hv hn hb2 h
      replace hL := Lib.hid hL
      replace hv := Lib.hid hv
      replace hn := Lib.hid hn
      replace hb2 := Lib.hid hb2
      replace hown := Lib.hid hown
      replace hb := Lib.hid hb
      replace hs := Lib.hid hs
      have zr := Ir.out.x.lt
      have o_I_0 := Ir.out.c (i := 0) rfl
      have o_I_1 := Ir.out.c (i := 1) rfl
      have o_I_2 := Ir.out.c (i := 2) rfl
      have o_I_3 := Ir.out.c (i := 3) rfl
      have o_I_4 := Ir.out.c (i := 4) rfl
      have o_I_5 := Ir.out.c (i := 5) rfl
      have o_I_6 := Ir.out.c (i := 6) rfl
      go_wp2_with fail
      clear o_I_0 o_I_1 o_I_2 o_I_3 o_I_4 o_I_5 o_I_6
      go_at_call 73
      (with_reducible refine (cT.out _ Ir.out.r.self).mono ?_)
      rintro e w1 ⟨rfl, hb1⟩
      have I_w1 := Lib.hid (Ir.out.below hb1)
      have O_w1 := Lib.hid (hown.out.below hb1)
      have z0_w1 : w.heap.size < w1.heap.size := Nat.lt_of_lt_of_le zr hb1.size
      clear Ir hown zr
      clear cT
      go_upto_region 6 with fail
      obtain ⟨w2, hw2⟩ : ∃ W, W = w1.alloc (.cells #[.int .i64 v.r, .int .i64 v.c, .int .i64 v.b, .int .i64 v.p, .int .i64 n] 33) := ⟨_, rfl⟩
      have bw2 : Below w1.heap.size w1 w2 := by rw [hw2]; exact (Below.refl _ _).alloc (Nat.le_refl _) _
      have Xw2 : Bx w2 w1.heap.size 33 #[.int .i64 v.r, .int .i64 v.c, .int .i64 v.b, .int .i64 v.p, .int .i64 n] := by rw [hw2]; exact Bx.new _ _ _ rfl
      rw [← hw2]
      clear hw2
      have I_w2 := Lib.hid (I_w1.out.below bw2)
      have O_w2 := Lib.hid (O_w1.out.below bw2)
      have N_w2 := Lib.hid (Xw2)
      have z0_w2 : w.heap.size < w2.heap.size := Nat.lt_of_lt_of_le z0_w1 bw2.size
      have B_w2 := bt hb1 bw2
      clear I_w1 O_w1 z0_w1 hb1 bw2
      have z1_w2 : w1.heap.size < w2.heap.size := Xw2.lt
      clear Xw2
      cases b with
      | true =>
        have o_N_0 := N_w2.out.c (i := 0) rfl
        have o_N_1 := N_w2.out.c (i := 1) rfl
        have o_N_2 := N_w2.out.c (i := 2) rfl
        have o_N_3 := N_w2.out.c (i := 3) rfl
        have o_N_4 := N_w2.out.c (i := 4) rfl
        have hs2 := Lib.hid (show ((List.range (k + 1)).flatMap t.send) = L ++ [(⟨(k : Int), v, n⟩ : Snd)] from hs.out)
        have hbx := Lib.hid B_w2
        obtain ⟨w8, hw8⟩ : ∃ W, W = w2.alloc (.cells #[.int .i64 k, .int .i64 v.r, .int .i64 v.c, .int .i64 v.b, .int .i64 v.p, .int .i64 n] 68) := ⟨_, rfl⟩
        have b8 : Below w2.heap.size w2 w8 := by rw [hw8]; exact (Below.refl _ _).alloc (Nat.le_refl _) _
        have hsl := Lib.hid (show Sl w8 6 (some ⟨w2.heap.size, 0, none⟩) ([(⟨(k : Int), v, n⟩ : Snd)].map Snd.cells) from bx_sl (T := 68) (vals := #[.int .i64 k, .int .i64 v.r, .int .i64 v.c, .int .i64 v.b, .int .i64 v.p, .int .i64 n]) (by rw [hw8]; exact Bx.new _ _ _ rfl) rfl (by intro c hc; simp at hc; subst hc; rfl))
        have own8 := Lib.hid (O_w2.out.below b8)
        have hb8 := Lib.hid (bt (bt hb.out hbx.out) b8)
        have hn1 : Hid ((L.map Snd.cells).length + ([(⟨(k : Int), v, n⟩ : Snd)].map Snd.cells).length ≤ 1000000) := Lib.hid (by rw [List.length_map, List.length_map]; have := hlenL.out; simp; omega)
        have hvl : Hid ((L.map Snd.cells).length = L.length) := Lib.hid (List.length_map ..)
        have hB2 : Hid (w0.heap.size ≤ w8.heap.size) := Lib.hid hb8.out.size
        clear b8 B_w2
        go_wp2_with (at_builtin; rw [← hw8]; (refine wpList_append_sl rfl (.tmp 25) (.tmp 29) 48 rfl elD (by rfl) own8.out (by rfl) (by rfl) hsl.out (wholeD [(⟨(k : Int), v, n⟩ : Snd)]) (fun h => by cases h) hn1.out hB2.out ?_); intro v' w4 own1 grow1 _)
        have b4 : Below w0.heap.size w0 w4 := hb8.out.grown grow1 hb8.out.size (fun j hj => (own8.out.lt j hj).1)
        go_roundw
        case rel => exact ⟨k + 1, L ++ [(⟨(k : Int), v, n⟩ : Snd)], by omega, by go_num, hs2.out.symm, by unfold OwnD; rw [List.map_append]; exact own1, b4⟩
        case measure => simp [intOf]; omega
      | false =>
        have hs2 := Lib.hid (show ((List.range (k + 1)).flatMap t.send) = L by have := hs.out; rw [if_neg (by simp), List.append_nil] at this; exact this)
        have hb6 := Lib.hid (bt hb.out B_w2)
        clear B_w2
        go_wp2_with fail
        go_roundw
        case rel => exact ⟨k + 1, L, by omega, by go_num, hs2.out.symm, O_w2.out, hb6.out⟩
        case measure => simp [intOf]; omega
    · obtain rfl : k = t.states.length := by omega
      obtain rfl : L = t.sends := hL
      have hrow := Lib.hid (rowD hown)
      have hfar := Lib.hid (own_far hown)
      have hsz := Lib.hid I.out.b.size
      have hbw := Lib.hid (bt I.out.b hb)
      replace hown := Lib.hid hown
      replace hb := Lib.hid hb
      go_wp2_with fail
      go_ret
      exact ⟨A3, c3, rfl, hrow.out, fun a ha => Nat.le_trans hsz.out (hfar.out a ha), hbw.out⟩
set_option maxHeartbeats 16000000 in
theorem o_fwd_no {t : T} {AC : Option Addr} {cC : Nat} {AU : Option Addr} {cU : Nat} {AI : Option Addr} {cI : Nat} {AS : Option Addr} {cS : Nat} {w : World} (hok : t.ok = false) (hl : Len t) (hR : TreeR w t AC cC AU cU AI cI AS cS) :
    Calls Try.prog 18 #[tv t AC cC AU cU AI cI AS cS] w fun e w' => ∃ A c, e = .returned (.tuple #[.slice A 0 c, .int .i64 1]) ∧ Below w.heap.size w w' := by
  obtain ⟨w0, hw0⟩ : ∃ W, W = w.alloc (.cells #[.int .i64 t.self.id, .slice AC t.self.costs.length cC, .slice AU t.self.ups.length cU, .slice AI t.self.infos.length cI, .slice AS t.states.length cS, .int .i64 t.mx, .int .i64 t.dl] 29) := ⟨_, rfl⟩
  have I := Lib.hid (show InT w w0 t AC cC AU cU AI cI AS cS by rw [hw0]; exact .new hR)
  have hcall := Lib.hid (o_rightT hl I.out.r)
  rw [hok] at hcall
  have B0 := I.out.b
  have z0 := I.out.x.lt
  clear hR hl
  replace hok := Lib.hid hok
  go_enter Try.func18, Try.ntmps18
  go_upto_region 1 with fail
  rw [← hw0]
  clear hw0
  have o_I_0 := I.out.c (i := 0) rfl
  have o_I_1 := I.out.c (i := 1) rfl
  have o_I_2 := I.out.c (i := 2) rfl
  have o_I_3 := I.out.c (i := 3) rfl
  have o_I_4 := I.out.c (i := 4) rfl
  have o_I_5 := I.out.c (i := 5) rfl
  have o_I_6 := I.out.c (i := 6) rfl
  go_wp2_with fail
  clear o_I_0 o_I_1 o_I_2 o_I_3 o_I_4 o_I_5 o_I_6
  go_at_call 9
  (with_reducible refine (hcall.out).mono ?_)
  rintro e w1 ⟨rfl, hb1⟩
  have I_w1 := Lib.hid (I.out.below hb1)
  have z0_w1 : w.heap.size < w1.heap.size := Nat.lt_of_lt_of_le z0 hb1.size
  have B_w1 := bt B0 hb1
  clear I z0 B0 hb1
  clear hcall
  have hb9 := Lib.hid B_w1
  clear B_w1
  go_wp2_with fail
  go_ret2
  exact ⟨none, 0, rfl, hb9.out⟩
set_option maxHeartbeats 16000000 in
theorem o_fwd_ok {t : T} {AC : Option Addr} {cC : Nat} {AU : Option Addr} {cU : Nat} {AI : Option Addr} {cI : Nat} {AS : Option Addr} {cS : Nat} {w : World} (hok : t.ok = true) (hl : Len t) (hR : TreeR w t AC cC AU cU AI cI AS cS) :
    Calls Try.prog 18 #[tv t AC cC AU cU AI cI AS cS] w fun e w' => ∃ A c, e = .returned (.tuple #[.slice A t.fwd.length c, .int .i64 0]) ∧ RowI w' A t.fwd.length c t.fwd ∧ Below w.heap.size w w' := by
  obtain ⟨w0, hw0⟩ : ∃ W, W = w.alloc (.cells #[.int .i64 t.self.id, .slice AC t.self.costs.length cC, .slice AU t.self.ups.length cU, .slice AI t.self.infos.length cI, .slice AS t.states.length cS, .int .i64 t.mx, .int .i64 t.dl] 29) := ⟨_, rfl⟩
  have I := Lib.hid (show InT w w0 t AC cC AU cU AI cI AS cS by rw [hw0]; exact .new hR)
  have hcall := Lib.hid (o_rightT hl I.out.r)
  rw [hok] at hcall
  have hls := hl.s
  have B0 := I.out.b
  have z0 := I.out.x.lt
  clear hR hl
  replace hok := Lib.hid hok
  go_enter Try.func18, Try.ntmps18
  go_upto_region 1 with fail
  rw [← hw0]
  clear hw0
  have o_I_0 := I.out.c (i := 0) rfl
  have o_I_1 := I.out.c (i := 1) rfl
  have o_I_2 := I.out.c (i := 2) rfl
  have o_I_3 := I.out.c (i := 3) rfl
  have o_I_4 := I.out.c (i := 4) rfl
  have o_I_5 := I.out.c (i := 5) rfl
  have o_I_6 := I.out.c (i := 6) rfl
  go_wp2_with fail
  clear o_I_0 o_I_1 o_I_2 o_I_3 o_I_4 o_I_5 o_I_6
  go_at_call 9
  (with_reducible refine (hcall.out).mono ?_)
  rintro e w21 ⟨rfl, hb21⟩
  have I_w21 := Lib.hid (I.out.below hb21)
  have z0_w21 : w.heap.size < w21.heap.size := Nat.lt_of_lt_of_le z0 hb21.size
  have B_w21 := bt B0 hb21
  clear I z0 B0 hb21
  clear hcall
  have o_I_0 := I_w21.out.c (i := 0) rfl
  have o_I_1 := I_w21.out.c (i := 1) rfl
  have o_I_2 := I_w21.out.c (i := 2) rfl
  have o_I_3 := I_w21.out.c (i := 3) rfl
  have o_I_4 := I_w21.out.c (i := 4) rfl
  have o_I_5 := I_w21.out.c (i := 5) rfl
  have o_I_6 := I_w21.out.c (i := 6) rfl
  go_wp2_with fail
  clear o_I_0 o_I_1 o_I_2 o_I_3 o_I_4 o_I_5 o_I_6
  have I0 := I_w21
  have hb0 := Lib.hid B_w21
  clear B_w21 z0_w21
  go_loopw [4, 15] (fun v3 i wr => ∃ (k : Nat) (L : List Int), k ≤ t.states.length ∧ i = .int .i64 k ∧ L = (List.range k).flatMap t.fwdAt ∧ OwnI wr w21.heap.size v3 L ∧ Below w21.heap.size w21 wr) (fun _ i _ => t.states.length - (intOf i).toNat)
  case atStart => exact ⟨0, [], by omega, rfl, rfl, Own.nil _ _ _ _, Below.refl _ _⟩
  case round =>
    obtain ⟨k, L, hk, rfl, hL, hown, hb⟩ := hrel
    obtain ⟨A3, c3, hv3⟩ := IntP.OwnI.form' hown
    subst hv3
    have Ir := Lib.hid (I0.out.below hb)
    have hlenL := Lib.hid (show L.length ≤ k by rw [hL]; exact fwd_len _ _)
    by_cases hkn : k < t.states.length
    · obtain ⟨bS, oS, hAS, hbS, q0, q1⟩ := SlP.at_ Ir.out.r.sts.sl (st_at (t := t) (p := k) hkn)
      subst hAS
      obtain ⟨x, hx⟩ : ∃ x, t.st k = x := ⟨_, rfl⟩
      rw [hx] at q0 q1
      have hkl : (k : Int) < (t.states.length : Int) := by omega
      have hs := flat_succ t.fwdAt k
      rw [← hL] at hs
      unfold T.fwdAt at hs
      rw [hx] at hs
      obtain ⟨b2, hb2⟩ : ∃ b, decide (x.1 = 2) = b := ⟨_, rfl⟩
      obtain ⟨b3, hb3⟩ : ∃ b, decide (x.1 = 3) = b := ⟨_, rfl⟩
      have cM := Lib.hid fun (W : World) => may_to hb2 hb3 W
      replace hL := Lib.hid hL
      replace hx := Lib.hid hx
      replace hown := Lib.hid hown
      replace hb := Lib.hid hb
      replace hb2 := Lib.hid hb2
      have zr := Ir.out.x.lt
      go_upto_region 7 with fail
      obtain ⟨w41, hw41⟩ : ∃ W, W = wr.alloc (.cells #[.int .i64 x.1, .int .i64 x.2] 80) := ⟨_, rfl⟩
      have bw41 : Below wr.heap.size wr w41 := by rw [hw41]; exact (Below.refl _ _).alloc (Nat.le_refl _) _
      have Xw41 : Bx w41 wr.heap.size 80 #[.int .i64 x.1, .int .i64 x.2] := by rw [hw41]; exact Bx.new _ _ _ rfl
      rw [← hw41]
      clear hw41
      have O_w41 := Lib.hid (hown.out.below bw41)
      have N_w41 := Lib.hid (Xw41)
      clear hown
      have z0_w41 : wr.heap.size < w41.heap.size := Xw41.lt
      clear Xw41
      clear q0 q1 hbS zr
      have o_N_0 := N_w41.out.c (i := 0) rfl
      have o_N_1 := N_w41.out.c (i := 1) rfl
      go_wp2_with fail
      clear o_N_0 o_N_1
      go_at_call 54
      (with_reducible refine (cM.out _).mono ?_)
      rintro e w42 ⟨rfl, hb42⟩
      have O_w42 := Lib.hid (O_w41.out.below hb42)
      have N_w42 := Lib.hid (N_w41.out.below hb42)
      have z0_w42 : wr.heap.size < w42.heap.size := Nat.lt_of_lt_of_le z0_w41 hb42.size
      have B_w42 := bt bw41 hb42
      clear O_w41 N_w41 z0_w41 bw41 hb42
      clear cM
      cases b3 with
      | true =>
        have h3 : x.1 = 3 := by simpa using hb3
        rw [if_pos h3] at hs
        replace hs := Lib.hid hs
        replace h3 := Lib.hid h3
        replace hb3 := Lib.hid hb3
        have hbx := Lib.hid B_w42
        obtain ⟨w8, hw8⟩ : ∃ W, W = w42.alloc (.cells #[.int .i64 k] 3) := ⟨_, rfl⟩
        have b8 : Below w42.heap.size w42 w8 := by rw [hw8]; exact (Below.refl _ _).alloc (Nat.le_refl _) _
        have hsl := Lib.hid (show Sl w8 1 (some ⟨w42.heap.size, 0, none⟩) (IntP.cI [(k : Int)]) from bx_sl (T := 3) (vals := #[.int .i64 k]) (by rw [hw8]; exact Bx.new _ _ _ rfl) rfl (by intro c hc; simp [IntP.cI] at hc; subst hc; rfl))
        have own8 := Lib.hid (O_w42.out.below b8)
        have hb8 := Lib.hid (bt (bt hb.out hbx.out) b8)
        have hn1 : Hid ((IntP.cI L).length + (IntP.cI [(k : Int)]).length ≤ 1000000) := Lib.hid (by rw [IntP.cI_length, IntP.cI_length]; have := hlenL.out; simp; omega)
        have hvl : Hid ((IntP.cI L).length = L.length) := Lib.hid (IntP.cI_length L)
        have hB2 : Hid (w21.heap.size ≤ w8.heap.size) := Lib.hid hb8.out.size
        clear b8 B_w42
        go_wp2_with (at_builtin; rw [← hw8]; (refine wpList_append_sl rfl (.tmp 26) (.tmp 28) 22 rfl IntP.elI (by rfl) own8.out (by rfl) (by rfl) hsl.out (IntP.whole [(k : Int)]) (fun h => by cases h) hn1.out hB2.out ?_); intro v' w4 own1 grow1 _)
        have b4 : Below w21.heap.size w21 w4 := hb8.out.grown grow1 hb8.out.size (fun j hj => (own8.out.lt j hj).1)
        go_roundw
        case rel => exact ⟨k + 1, L ++ [(k : Int)], by omega, by go_num, hs.out.symm, by unfold OwnI; rw [IntP.cI_append]; exact own1, b4⟩
        case measure => simp [intOf]; omega
      | false =>
        have h3 : ¬ x.1 = 3 := by simpa using hb3
        rw [if_neg h3, List.append_nil] at hs
        replace hs := Lib.hid hs
        replace h3 := Lib.hid h3
        replace hb3 := Lib.hid hb3
        have hb6 := Lib.hid (bt hb.out B_w42)
        clear B_w42
        go_wp2_with fail
        go_roundw
        case rel => exact ⟨k + 1, L, by omega, by go_num, hs.out.symm, O_w42.out, hb6.out⟩
        case measure => simp [intOf]; omega
    · obtain rfl : k = t.states.length := by omega
      obtain rfl : L = t.fwd := hL
      have hrow := Lib.hid (IntP.own_row hown)
      have hbw := Lib.hid (bt hb0.out hb)
      replace hown := Lib.hid hown
      replace hb := Lib.hid hb
      go_wp2_with fail
      go_ret2
      exact ⟨A3, c3, rfl, hrow.out, hbw.out⟩
end Go.Proofs.Ytidoaccidmmalaa.StpP

/-
  Contract of stp.Tick.
-/
namespace Go.Proofs.Ytidoaccidmmalaa.StpP
open Go.Proofs.Ytidoaccidmmalaa.MacP (arr_out Wrote wp_region_ends outM)
open Go.RowKit Go.Sort Go.Proofs.Ytidoaccidmmalaa.SliceP Go.Proofs.Ytidoaccidmmalaa.BoxP Go.Proofs.Ytidoaccidmmalaa.VecP Go.Proofs.Ytidoaccidmmalaa.RoleP
open Go.Proofs.Ytidoaccidmmalaa.IntP (RowI SlI OwnI)
open Go.Proofs.Ytidoaccidmmalaa.BoolP (RowB SlB OwnB)
open Go.Proofs.Ytidoaccidmmalaa.PortP (okS roleS tickS sv)
set_option linter.unusedVariables false
set_option maxRecDepth 100000
theorem ret0D {w W : World} {src : Nat → Prop} {mk : Value → Value → Value} (hb : Below w.heap.size w W) : RetTD w src T0 [] mk (.returned (mk (tv T0 none 0 none 0 none 0 none 0) (.slice none 0 0))) W := ⟨_, _, _, _, _, _, _, _, none, 0, rfl, TreeR.zero W, ⟨rfl, Sl.nil, Nat.le_refl _, fun _ => rfl⟩, hb, fun _ _ _ => ⟨fun _ a ha => (by cases ha), fun _ a ha => (by cases ha), fun _ a ha => (by cases ha), fun _ a ha => (by cases ha)⟩⟩
theorem Blks.retD {w W : World} {src : Nat → Prop} {u : T} {gC gU gI gS : Nat} {mk : Value → Value → Value} {AD : Option Addr} {cD : Nat} {l : List Snd} (h : Blks W w.heap.size u gC gU gI gS) (hd : RowD W AD l.length cD l) (hb : Below w.heap.size w W) : RetTD w src u l mk (.returned (mk (tvO u gC gU gI gS) (.slice AD l.length cD))) W := ⟨_, _, _, _, _, _, _, _, AD, cD, rfl, h.tree, hd, hb, fun _ hb _ => h.off hb⟩
theorem ptick_to {x y : Int × Int} {d : Int} (h : okS x.1 x.2 d = true) (hy : tickS x.1 x.2 d = y) (w : World) : Calls Try.prog 51 #[.agg #[.int .i64 x.1, .int .i64 x.2], .int .i64 d] w fun e w' => e = .returned (.tuple #[.agg #[.int .i64 y.1, .int .i64 y.2], .int .i64 0]) ∧ Below w.heap.size w w' := by
  have := PortP.p_tick_ok x.1 x.2 d w h
  unfold PortP.RetSt at this
  rwa [hy] at this
def T.tk (t : T) (k : Nat) : Int × Int := tickS (t.st k).1 (t.st k).2 t.dl
theorem upto_tick (t : T) : t.upto t.tk t.states.length = t.ticked := by
  rw [upto_all]
  unfold T.ticked
  congr 1
  apply List.ext_getElem
  · simp
  · intro i h1 h2
    simp only [List.getElem_map, List.getElem_range]
    have hi : i < t.states.length := by simpa using h2
    have : t.st i = t.states[i] := by have := st_at hi; rw [List.getElem?_eq_getElem hi] at this; exact (Option.some.inj this).symm
    unfold T.tk
    rw [this]
theorem sets_rowD {b : Nat} {w w' : World} {A : Option Addr} {n c : Nat} {l : List Snd} (h : RowD w A n c l) (hg : w.grownBy w' (some b)) (hb : ∀ a, A = some a → l ≠ [] → a.block ≠ b) : RowD w' A n c l :=
  ⟨h.len, fun hn => by
    obtain ⟨g, o, hA, hlt, hx⟩ := h.sl hn
    have hne : g ≠ b := hb _ hA (by intro e; subst e; simp at hn)
    exact ⟨g, o, hA, Nat.lt_of_lt_of_le hlt hg.size, fun k cs hk j v hj => by rw [← hx k cs hk j v hj]; unfold World.cell?; rw [hg.block g hlt (by simpa using hne)]⟩, h.cap, h.nil⟩
set_option maxHeartbeats 16000000 in
theorem o_tick_no {t : T} {AC : Option Addr} {cC : Nat} {AU : Option Addr} {cU : Nat} {AI : Option Addr} {cI : Nat} {AS : Option Addr} {cS : Nat} {w : World} (hok : t.ok = false) (hl : Len t) (hR : TreeR w t AC cC AU cU AI cI AS cS) :
    Calls Try.prog 16 #[tv t AC cC AU cU AI cI AS cS] w (RetTD w (fun b => OffT b t AC AU AI AS) T0 [] (fun v l => .tuple #[v, l, .int .i64 1])) := by
  obtain ⟨w0, hw0⟩ : ∃ W, W = (w.alloc (.cells #[.int .i64 t.self.id, .slice AC t.self.costs.length cC, .slice AU t.self.ups.length cU, .slice AI t.self.infos.length cI, .slice AS t.states.length cS, .int .i64 t.mx, .int .i64 t.dl] 29)).alloc (.cells #[.int .i64 0, .slice none 0 0, .slice none 0 0, .slice none 0 0, .slice none 0 0, .int .i64 0, .int .i64 0] 29) := ⟨_, rfl⟩
  obtain ⟨n1, hn1⟩ : ∃ n, w.heap.size + 1 = n := ⟨_, rfl⟩
  have b0 : Below w.heap.size w w0 := by rw [hw0]; exact (((Below.refl _ _).alloc (Nat.le_refl _) _).alloc (by simp) _)
  have X0 : Bx w0 w.heap.size 29 #[.int .i64 t.self.id, .slice AC t.self.costs.length cC, .slice AU t.self.ups.length cU, .slice AI t.self.infos.length cI, .slice AS t.states.length cS, .int .i64 t.mx, .int .i64 t.dl] := by rw [hw0]; exact (Bx.new _ _ _ rfl).alloc _
  have X := Lib.hid (show Bx w0 n1 29 #[.int .i64 0, .slice none 0 0, .slice none 0 0, .slice none 0 0, .slice none 0 0, .int .i64 0, .int .i64 0] by rw [hw0]; exact Bx.new _ _ _ (by simp; omega))
  have I := Lib.hid (show InT w w0 t AC cC AU cU AI cI AS cS from ⟨b0, X0, hR.below b0⟩)
  have hlt := Lib.hid (show w.heap.size ≤ w0.heap.size from b0.size)
  have hge := Lib.hid (show w.heap.size ≤ n1 by omega)
  have hcall := Lib.hid (o_rightT hl I.out.r)
  rw [hok] at hcall
  replace hok := Lib.hid hok
  clear hl
  have B0 := I.out.b
  have z0 := I.out.x.lt
  have z1 := X.out.lt
  clear b0 X0 hR
  go_enter Try.func16, Try.ntmps16
  go_upto_region 1 with fail
  rw [← hw0]
  clear hw0 hn1
  have o_I_0 := I.out.c (i := 0) rfl
  have o_I_1 := I.out.c (i := 1) rfl
  have o_I_2 := I.out.c (i := 2) rfl
  have o_I_3 := I.out.c (i := 3) rfl
  have o_I_4 := I.out.c (i := 4) rfl
  have o_I_5 := I.out.c (i := 5) rfl
  have o_I_6 := I.out.c (i := 6) rfl
  go_wp2_with fail
  clear o_I_0 o_I_1 o_I_2 o_I_3 o_I_4 o_I_5 o_I_6
  go_at_call 9
  (with_reducible refine (hcall.out).mono ?_)
  rintro e w1 ⟨rfl, hb1⟩
  have I_w1 := Lib.hid (I.out.below hb1)
  have X_w1 := Lib.hid (X.out.below hb1)
  have z0_w1 : w.heap.size < w1.heap.size := Nat.lt_of_lt_of_le z0 hb1.size
  have z1_w1 : n1 < w1.heap.size := Nat.lt_of_lt_of_le z1 hb1.size
  have B_w1 := bt B0 hb1
  clear I X z0 z1 B0 hb1
  clear hcall
  have o_X_0 := X_w1.out.c (i := 0) rfl
  have o_X_1 := X_w1.out.c (i := 1) rfl
  have o_X_2 := X_w1.out.c (i := 2) rfl
  have o_X_3 := X_w1.out.c (i := 3) rfl
  have o_X_4 := X_w1.out.c (i := 4) rfl
  have o_X_5 := X_w1.out.c (i := 5) rfl
  have o_X_6 := X_w1.out.c (i := 6) rfl
  have p_X_0 := X_w1.out.f 0
  have p_X_1 := X_w1.out.f 1
  have p_X_2 := X_w1.out.f 2
  have p_X_3 := X_w1.out.f 3
  have p_X_4 := X_w1.out.f 4
  have p_X_5 := X_w1.out.f 5
  have p_X_6 := X_w1.out.f 6
  have hzx := X_w1.out.lt
  have hb9 := Lib.hid B_w1
  clear B_w1
  go_wp2_with fail
  refine bodyPost_ret (v := .tuple #[.agg #[.int .i64 0, .slice none 0 0, .slice none 0 0, .slice none 0 0, .slice none 0 0, .int .i64 0, .int .i64 0], .slice none 0 0, .int .i64 1]) (by simp [results, Try.results16, go_sem, o_X_0, o_X_1, o_X_2, o_X_3, o_X_4, o_X_5, o_X_6]) rfl ?_
  exact ret0D (mk := fun v l => .tuple #[v, l, .int .i64 1]) (set7_bel hb9.out hge.out)
set_option maxHeartbeats 16000000 in
theorem o_tick_ok {t : T} {AC : Option Addr} {cC : Nat} {AU : Option Addr} {cU : Nat} {AI : Option Addr} {cI : Nat} {AS : Option Addr} {cS : Nat} {w : World} (hok : t.ok = true) (hl : Len t) (hR : TreeR w t AC cC AU cU AI cI AS cS) :
    Calls Try.prog 16 #[tv t AC cC AU cU AI cI AS cS] w (RetTD w (fun b => OffT b t AC AU AI AS) t.tick t.tick.sends (fun v l => .tuple #[v, l, .int .i64 0])) := by
  obtain ⟨w0, hw0⟩ : ∃ W, W = (w.alloc (.cells #[.int .i64 t.self.id, .slice AC t.self.costs.length cC, .slice AU t.self.ups.length cU, .slice AI t.self.infos.length cI, .slice AS t.states.length cS, .int .i64 t.mx, .int .i64 t.dl] 29)).alloc (.cells #[.int .i64 0, .slice none 0 0, .slice none 0 0, .slice none 0 0, .slice none 0 0, .int .i64 0, .int .i64 0] 29) := ⟨_, rfl⟩
  obtain ⟨n1, hn1⟩ : ∃ n, w.heap.size + 1 = n := ⟨_, rfl⟩
  have b0 : Below w.heap.size w w0 := by rw [hw0]; exact (((Below.refl _ _).alloc (Nat.le_refl _) _).alloc (by simp) _)
  have X0 : Bx w0 w.heap.size 29 #[.int .i64 t.self.id, .slice AC t.self.costs.length cC, .slice AU t.self.ups.length cU, .slice AI t.self.infos.length cI, .slice AS t.states.length cS, .int .i64 t.mx, .int .i64 t.dl] := by rw [hw0]; exact (Bx.new _ _ _ rfl).alloc _
  have X := Lib.hid (show Bx w0 n1 29 #[.int .i64 0, .slice none 0 0, .slice none 0 0, .slice none 0 0, .slice none 0 0, .int .i64 0, .int .i64 0] by rw [hw0]; exact Bx.new _ _ _ (by simp; omega))
  have I := Lib.hid (show InT w w0 t AC cC AU cU AI cI AS cS from ⟨b0, X0, hR.below b0⟩)
  have hlt := Lib.hid (show w.heap.size ≤ w0.heap.size from b0.size)
  have hge := Lib.hid (show w.heap.size ≤ n1 by omega)
  have hcall := Lib.hid (o_rightT hl I.out.r)
  rw [hok] at hcall
  have hok' := Lib.hid hok
  have hl' := Lib.hid hl
  have hpa := aged_pre hok
  have hso := settle_ok hpa
  obtain ⟨u, hu⟩ : ∃ u, t.aged.settle = u := ⟨_, rfl⟩
  have hsts := Lib.hid (show ∀ k, k < u.states.length → okS (u.st k).1 (u.st k).2 u.dl = true by rw [← hu]; exact fun k hk => (ok_portT hso hk).1)
  have huo : u.ok = true := by rw [← hu]; exact hso
  have huself := Lib.hid (ok_headT huo)
  have hh8 := (head_iff.1 (ok_head (ok_headT huo).1)).2
  have hu8 : u.states.length ≤ 8 := by have := (ok_headT huo).2.1; omega
  have hulen := Lib.hid (show Len u.ticked from by
    have h2 := (ok_headT huo).2.1
    exact ⟨by show u.self.costs.length ≤ 1000; omega, by show u.self.ups.length ≤ 1000; omega, by show u.self.infos.length ≤ 1000; omega, by rw [ticked_len]; omega⟩)
  have htk : t.tick = u.ticked := by unfold T.tick; rw [hu]
  rw [htk]
  replace hu := Lib.hid hu
  replace hpa := Lib.hid hpa
  replace huo := Lib.hid huo
  clear hok hso htk hl hh8
  have B0 := I.out.b
  have z0 := I.out.x.lt
  have z1 := X.out.lt
  clear b0 X0 hR
  go_enter Try.func16, Try.ntmps16
  go_upto_region 1 with fail
  rw [← hw0]
  clear hw0 hn1
  have o_I_0 := I.out.c (i := 0) rfl
  have o_I_1 := I.out.c (i := 1) rfl
  have o_I_2 := I.out.c (i := 2) rfl
  have o_I_3 := I.out.c (i := 3) rfl
  have o_I_4 := I.out.c (i := 4) rfl
  have o_I_5 := I.out.c (i := 5) rfl
  have o_I_6 := I.out.c (i := 6) rfl
  go_wp2_with fail
  clear o_I_0 o_I_1 o_I_2 o_I_3 o_I_4 o_I_5 o_I_6
  go_at_call 9
  (with_reducible refine (hcall.out).mono ?_)
  rintro e w1 ⟨rfl, hb1⟩
  have I_w1 := Lib.hid (I.out.below hb1)
  have X_w1 := Lib.hid (X.out.below hb1)
  have z0_w1 : w.heap.size < w1.heap.size := Nat.lt_of_lt_of_le z0 hb1.size
  have z1_w1 : n1 < w1.heap.size := Nat.lt_of_lt_of_le z1 hb1.size
  have B_w1 := bt B0 hb1
  clear I X z0 z1 B0 hb1
  clear hcall
  have hs9 := Lib.hid (show w.heap.size ≤ w1.heap.size from Nat.le_of_lt z0_w1)
  have hx9 := Lib.hid (show n1 < w1.heap.size from z1_w1)
  have o_I_0 := I_w1.out.c (i := 0) rfl
  have o_I_1 := I_w1.out.c (i := 1) rfl
  have o_I_2 := I_w1.out.c (i := 2) rfl
  have o_I_3 := I_w1.out.c (i := 3) rfl
  have o_I_4 := I_w1.out.c (i := 4) rfl
  have o_I_5 := I_w1.out.c (i := 5) rfl
  have o_I_6 := I_w1.out.c (i := 6) rfl
  go_wp2_with fail
  clear o_I_0 o_I_1 o_I_2 o_I_3 o_I_4 o_I_5 o_I_6
  go_at_call 34
  (with_reducible refine (o_change (g := 49) (cb := #[]) tick1_enters (tick1_act hok'.out) hpa.out hl'.out I_w1.out.r).mono ?_)
  rintro e w2 ⟨gC, gU, gI, gS, rfl, bk, hb2⟩
  have HB9 := hb2
  have I_w2 := Lib.hid (I_w1.out.below hb2)
  have X_w2 := Lib.hid (X_w1.out.below hb2)
  have z0_w2 : w.heap.size < w2.heap.size := Nat.lt_of_lt_of_le z0_w1 hb2.size
  have z1_w2 : n1 < w2.heap.size := Nat.lt_of_lt_of_le z1_w1 hb2.size
  have B_w2 := bt B_w1 hb2
  clear I_w1 X_w1 z0_w1 z1_w1 B_w1 hb2
  rw [hu.out] at bk ⊢
  have hs3 := Lib.hid (show w1.heap.size ≤ w2.heap.size from HB9.size)
  go_upto_region 4 with fail
  obtain ⟨w3, hw3⟩ : ∃ W, W = w2.alloc (.cells #[.int .i64 u.self.id, .slice (some ⟨gC, 0, none⟩) u.self.costs.length u.self.costs.length, .slice (some ⟨gU, 0, none⟩) u.self.ups.length u.self.ups.length, .slice (some ⟨gI, 0, none⟩) u.self.infos.length u.self.infos.length, .slice (some ⟨gS, 0, none⟩) u.states.length u.states.length, .int .i64 u.mx, .int .i64 u.dl] 29) := ⟨_, rfl⟩
  have bw3 : Below w2.heap.size w2 w3 := by rw [hw3]; exact (Below.refl _ _).alloc (Nat.le_refl _) _
  have hq9 := bw3
  have Xw3 : Bx w3 w2.heap.size 29 #[.int .i64 u.self.id, .slice (some ⟨gC, 0, none⟩) u.self.costs.length u.self.costs.length, .slice (some ⟨gU, 0, none⟩) u.self.ups.length u.self.ups.length, .slice (some ⟨gI, 0, none⟩) u.self.infos.length u.self.infos.length, .slice (some ⟨gS, 0, none⟩) u.states.length u.states.length, .int .i64 u.mx, .int .i64 u.dl] := by rw [hw3]; exact Bx.new _ _ _ rfl
  rw [← hw3]
  clear hw3
  have I_w3 := Lib.hid (I_w2.out.below bw3)
  have X_w3 := Lib.hid (X_w2.out.below bw3)
  have A_w3 := Lib.hid (Xw3)
  have z0_w3 : w.heap.size < w3.heap.size := Nat.lt_of_lt_of_le z0_w2 bw3.size
  have z1_w3 : n1 < w3.heap.size := Nat.lt_of_lt_of_le z1_w2 bw3.size
  have B_w3 := bt B_w2 bw3
  clear I_w2 X_w2 z0_w2 z1_w2 B_w2 bw3
  have z2_w3 : w2.heap.size < w3.heap.size := Xw3.lt
  clear Xw3
  obtain ⟨bL, hbL⟩ : ∃ b, w2.heap.size = b := ⟨_, rfl⟩
  have H0 := Lib.hid (show OwnT w3 w1.heap.size bL u gC gU gI gS from ⟨by rw [← hbL]; exact A_w3.out, bk.below hq9, by rw [← hbL]; exact HB9.size⟩)
  have S0 := Lib.hid (show w1.heap.size ≤ w3.heap.size from Nat.le_trans HB9.size hq9.size)
  rw [hbL]
  have B0' := Lib.hid B_w3
  have X0' := X_w3
  have zz := H0.out.x.lt
  clear bk hq9 HB9 hbL A_w3 I_w3 B_w3 z0_w3 z1_w3 z2_w3
  have o0 := H0.out.c (i := 0) rfl
  have o1 := H0.out.c (i := 1) rfl
  have o2 := H0.out.c (i := 2) rfl
  have o3 := H0.out.c (i := 3) rfl
  have o4 := H0.out.c (i := 4) rfl
  have o5 := H0.out.c (i := 5) rfl
  have o6 := H0.out.c (i := 6) rfl
  go_wp2_with fail
  clear zz o0 o1 o2 o3 o4 o5 o6
  go_loopw [17] (fun i wr => ∃ k : Nat, k ≤ u.states.length ∧ i = .int .i64 k ∧ OwnT wr w1.heap.size bL (u.upto u.tk k) gC gU gI gS ∧ Below w1.heap.size w3 wr) (fun i _ => u.states.length - (intOf i).toNat)
  case atStart => exact ⟨0, by omega, rfl, by rw [upto_zero]; exact H0.out, (Below.refl _ _).mono S0.out⟩
  case round =>
    clear H0
    obtain ⟨k, hk, rfl, H, hb9⟩ := hrel
    have hul := upto_len (f := u.tk) hk
    have zL := H.x.lt
    have o0 : wr.cell? ⟨bL, 0, none⟩ = some (.int .i64 u.self.id) := H.c (i := 0) rfl
    have o1 : wr.cell? ⟨bL, 1, none⟩ = some (.slice (some ⟨gC, 0, none⟩) u.self.costs.length u.self.costs.length) := H.c (i := 1) rfl
    have o2 : wr.cell? ⟨bL, 2, none⟩ = some (.slice (some ⟨gU, 0, none⟩) u.self.ups.length u.self.ups.length) := H.c (i := 2) rfl
    have o3 : wr.cell? ⟨bL, 3, none⟩ = some (.slice (some ⟨gI, 0, none⟩) u.self.infos.length u.self.infos.length) := H.c (i := 3) rfl
    have o4 : wr.cell? ⟨bL, 4, none⟩ = some (.slice (some ⟨gS, 0, none⟩) (u.upto u.tk k).states.length (u.upto u.tk k).states.length) := H.c (i := 4) rfl
    have o5 : wr.cell? ⟨bL, 5, none⟩ = some (.int .i64 u.mx) := H.c (i := 5) rfl
    have o6 : wr.cell? ⟨bL, 6, none⟩ = some (.int .i64 u.dl) := H.c (i := 6) rfl
    rw [hul] at o4
    by_cases hkn : k < u.states.length
    · have hkl : (k : Int) < (u.states.length : Int) := by omega
      obtain ⟨x, hx⟩ : ∃ x, u.st k = x := ⟨_, rfl⟩
      obtain ⟨y, hy⟩ : ∃ y, tickS x.1 x.2 u.dl = y := ⟨_, rfl⟩
      have hyk := Lib.hid (show u.tk k = y by unfold T.tk; rw [hx, hy])
      have hat := upto_at (f := u.tk) hkn
      rw [hx] at hat
      obtain ⟨s0, s1, zS⟩ := H.st hat
      have cP := Lib.hid fun (W : World) => ptick_to (by rw [← hx]; exact hsts.out k hkn) hy W
      have fS0 := H.b.s.free (k * 2)
      have fS1 := H.b.s.free (k * 2 + 1)
      have hkk := Lib.hid hkn
      have H' := Lib.hid H
      have hb' := Lib.hid hb9
      have hul' := Lib.hid hul
      have hsw := Lib.hid (show w1.heap.size ≤ wr.heap.size from Nat.le_trans S0.out hb9.size)
      replace hx := Lib.hid hx
      replace hy := Lib.hid hy
      clear hat hul H hb9
      go_upto_region 7 with fail
      obtain ⟨wa, hwa⟩ : ∃ V, V = wr.alloc (.cells #[.int .i64 x.1, .int .i64 x.2] 80) := ⟨_, rfl⟩
      have ba : Below wr.heap.size wr wa := by rw [hwa]; exact (Below.refl _ _).alloc (Nat.le_refl _) _
      have Xa : Bx wa wr.heap.size 80 #[.int .i64 x.1, .int .i64 x.2] := by rw [hwa]; exact Bx.new _ _ _ rfl
      rw [← hwa]
      have Ha := Lib.hid (H'.out.below ba)
      have Ba := Lib.hid (show Below w1.heap.size w3 wa from hb'.out.trans (ba.mono hsw.out))
      have hsa := Lib.hid (show w1.heap.size ≤ wa.heap.size from Nat.le_trans hsw.out ba.size)
      have a4 := (ba.cell (p := ⟨bL, 4, none⟩) zL).trans o4
      have a6 := (ba.cell (p := ⟨bL, 6, none⟩) zL).trans o6
      have m0 := (ba.cell (p := ⟨gS, k * 2, none⟩) zS).trans s0
      have m1 := (ba.cell (p := ⟨gS, k * 2 + 1, none⟩) zS).trans s1
      have g0 := (ba.frozen (p := ⟨gS, k * 2, none⟩) zS).trans fS0
      have g1 := (ba.frozen (p := ⟨gS, k * 2 + 1, none⟩) zS).trans fS1
      have x0 := Xa.c (i := 0) rfl
      have x1 := Xa.c (i := 1) rfl
      have zX := Xa.lt
      have zA := Nat.lt_of_lt_of_le zL ba.size
      have zJ := Nat.lt_of_lt_of_le zS ba.size
      obtain ⟨bX, hbX⟩ : ∃ b, wr.heap.size = b := ⟨_, rfl⟩
      rw [hbX] at zX x0 x1 ⊢
      clear hwa ba Xa o0 o1 o2 o3 o4 o5 o6 zL zS s0 s1 fS0 fS1 H' hb' hbX
      refine Go.Proofs.Ytidoaccidmmalaa.MacP.wp_region_free (by kernel_rfl) (fun ix => match ix with | 0 => 23 | 1 => 24 | 2 => 25 | 3 => 26 | 4 => 27 | 5 => 28 | 6 => 29 | 7 => 22 | 8 => 30 | 9 => 31 | 10 => 32 | _ => 0) 0 11 (fun ix => ix == 9) (fun ix => match ix with | 9 => .int .i64 0 | _ => .bool true) (by decide) (by decide) rfl rfl (by kernel_rfl) (by kernel_rfl) (by kernel_rfl) (fun W' => Below wa.heap.size wa W') (fun W' W'' => Below W'.heap.size W' W'') (fun W' h => h) (fun W' W'' h h' => bt h h') (fun W' W'' h h' => bt h h') (fun i v _ => match i with | 0 => v = .pointer (some ⟨bL, 4, none⟩) | 1 => v = .slice (some ⟨gS, 0, none⟩) u.states.length u.states.length | 2 => v = .int .i64 k | 3 => v = .agg #[.int .i64 x.1, .int .i64 x.2] | 4 => v = .pointer (some ⟨bL, 6, none⟩) | 5 => v = .int .i64 u.dl | 6 => v = .tuple #[.agg #[.int .i64 y.1, .int .i64 y.2], .int .i64 0] | 7 => v = .tuple #[.agg #[.int .i64 y.1, .int .i64 y.2], .int .i64 0] | 8 => v = .agg #[.int .i64 y.1, .int .i64 y.2] | 10 => v = .pointer (some ⟨gS, k * 2, none⟩) | _ => True) (fun i v W W' h _ => h) (fun i v W W' _ h _ _ => h) ?_
      refine ⟨?_, ?_, ?_, ?_, ?_, ?_, ?_, ?_, ?_, ?_, ?_, ?_, trivial⟩
      · as_aux_lemma =>
          intro a9 W2 K hR hm hdep hk hK hall
          replace hK : ∀ v w', v = .pointer (some ⟨bL, 4, none⟩) → Below W2.heap.size W2 w' → K (a9.put (some 23) v) w' := hK
          have hb := hR rfl
          have d5 : a9.tmps.getD 5 undef = .pointer (some ⟨bL, 0, none⟩) := hk 5 (by kernel_rfl)
          clear hdep hk hm hR hall hb
          go_simp
          exact hK _ _ rfl (Below.refl _ _)
      · as_aux_lemma =>
          intro a9 W2 K hR hm hdep hk hK hall
          replace hK : ∀ v w', v = .slice (some ⟨gS, 0, none⟩) u.states.length u.states.length → Below W2.heap.size W2 w' → K (a9.put (some 24) v) w' := hK
          have hb := hR rfl
          have d23 : a9.tmps.getD 23 undef = .pointer (some ⟨bL, 4, none⟩) := ((hdep ⟨0, .data⟩ (by simp) rfl (by decide)).2 rfl).2 rfl
          have t4 := (hb.cell (p := ⟨bL, 4, none⟩) zA).trans a4
          clear hdep hk hm hR hall hb
          go_simp
          exact hK _ _ rfl (Below.refl _ _)
      · as_aux_lemma =>
          intro a9 W2 K hR hm hdep hk hK hall
          replace hK : ∀ v w', v = .int .i64 k → Below W2.heap.size W2 w' → K (a9.put (some 25) v) w' := hK
          have hb := hR rfl
          have d6 : a9.tmps.getD 6 undef = .int .i64 k := hk 6 (by kernel_rfl)
          clear hdep hk hm hR hall hb
          go_simp
          exact hK _ _ rfl (Below.refl _ _)
      · as_aux_lemma =>
          intro a9 W2 K hR hm hdep hk hK hall
          replace hK : ∀ v w', v = .agg #[.int .i64 x.1, .int .i64 x.2] → Below W2.heap.size W2 w' → K (a9.put (some 26) v) w' := hK
          have hb := hR rfl
          have d7 : a9.tmps.getD 7 undef = .pointer (some ⟨bX, 0, none⟩) := hk 7 (by kernel_rfl)
          have t0 := (hb.cell (p := ⟨bX, 0, none⟩) zX).trans x0
          have t1 := (hb.cell (p := ⟨bX, 1, none⟩) zX).trans x1
          clear hdep hk hm hR hall hb
          go_simp
          exact hK _ _ rfl (Below.refl _ _)
      · as_aux_lemma =>
          intro a9 W2 K hR hm hdep hk hK hall
          replace hK : ∀ v w', v = .pointer (some ⟨bL, 6, none⟩) → Below W2.heap.size W2 w' → K (a9.put (some 27) v) w' := hK
          have hb := hR rfl
          have d5 : a9.tmps.getD 5 undef = .pointer (some ⟨bL, 0, none⟩) := hk 5 (by kernel_rfl)
          clear hdep hk hm hR hall hb
          go_simp
          exact hK _ _ rfl (Below.refl _ _)
      · as_aux_lemma =>
          intro a9 W2 K hR hm hdep hk hK hall
          replace hK : ∀ v w', v = .int .i64 u.dl → Below W2.heap.size W2 w' → K (a9.put (some 28) v) w' := hK
          have hb := hR rfl
          have d27 : a9.tmps.getD 27 undef = .pointer (some ⟨bL, 6, none⟩) := ((hdep ⟨4, .data⟩ (by simp) rfl (by decide)).2 rfl).2 rfl
          have t6 := (hb.cell (p := ⟨bL, 6, none⟩) zA).trans a6
          clear hdep hk hm hR hall hb
          go_simp
          exact hK _ _ rfl (Below.refl _ _)
      · as_aux_lemma =>
          intro a9 W2 K hR hm hdep hk hK hall
          replace hK : ∀ v w', v = .tuple #[.agg #[.int .i64 y.1, .int .i64 y.2], .int .i64 0] → Below W2.heap.size W2 w' → K (a9.put (some 29) v) w' := hK
          have hb := hR rfl
          have d26 : a9.tmps.getD 26 undef = .agg #[.int .i64 x.1, .int .i64 x.2] := ((hdep ⟨3, .data⟩ (by simp) rfl (by decide)).2 rfl).2 rfl
          have d28 : a9.tmps.getD 28 undef = .int .i64 u.dl := ((hdep ⟨5, .data⟩ (by simp) rfl (by decide)).2 rfl).2 rfl
          have hcall := Lib.hid (cP.out W2)
          clear hdep hk hm hR hall hb
          clear cP
          have q26 : a9.tmps[26]?.getD undef = .agg #[.int .i64 x.1, .int .i64 x.2] := by simpa [Array.getD_eq_getD_getElem?] using d26
          clear d26
          have q28 : a9.tmps[28]?.getD undef = .int .i64 u.dl := by simpa [Array.getD_eq_getD_getElem?] using d28
          clear d28
          go_simp
          refine hcall.out.mono ?_
          rintro e w9 ⟨rfl, r2⟩
          exact hK _ _ rfl r2
      · as_aux_lemma =>
          intro a9 W2 K hR hm hdep hk hK hall
          replace hK : ∀ v w', v = .tuple #[.agg #[.int .i64 y.1, .int .i64 y.2], .int .i64 0] → Below W2.heap.size W2 w' → K (a9.put (some 22) v) w' := hK
          have hb := hR rfl
          have d29 : a9.tmps.getD 29 undef = .tuple #[.agg #[.int .i64 y.1, .int .i64 y.2], .int .i64 0] := ((hdep ⟨6, .data⟩ (by simp) rfl (by decide)).2 rfl).2 rfl
          clear hdep hk hm hR hall hb
          go_simp
          exact hK _ _ rfl (Below.refl _ _)
      · as_aux_lemma =>
          intro a9 W2 K hR hm hdep hk hK hall
          replace hK : ∀ v w', v = .agg #[.int .i64 y.1, .int .i64 y.2] → Below W2.heap.size W2 w' → K (a9.put (some 30) v) w' := hK
          have hb := hR rfl
          have d22 : a9.tmps.getD 22 undef = .tuple #[.agg #[.int .i64 y.1, .int .i64 y.2], .int .i64 0] := ((hdep ⟨7, .data⟩ (by simp) rfl (by decide)).2 rfl).2 rfl
          clear hdep hk hm hR hall hb
          go_simp
          exact hK _ _ rfl (Below.refl _ _)
      · as_aux_lemma =>
          intro a9 W2 K hR hm hdep hk hK hall
          replace hK : K (a9.put (some 31) (.int .i64 0)) W2 := hK
          have d22 : a9.tmps.getD 22 undef = .tuple #[.agg #[.int .i64 y.1, .int .i64 y.2], .int .i64 0] := ((hdep ⟨7, .data⟩ (by simp) rfl (by decide)).2 rfl).1.elim fun _ h => h
          clear hdep hk hm hR hall
          go_simp
          exact hK
      · as_aux_lemma =>
          intro a9 W2 K hR hm hdep hk hK hall
          replace hK : ∀ v w', v = .pointer (some ⟨gS, k * 2, none⟩) → Below W2.heap.size W2 w' → K (a9.put (some 32) v) w' := hK
          have hb := hR rfl
          have d24 : a9.tmps.getD 24 undef = .slice (some ⟨gS, 0, none⟩) u.states.length u.states.length := ((hdep ⟨1, .data⟩ (by simp) rfl (by decide)).2 rfl).2 rfl
          have d25 : a9.tmps.getD 25 undef = .int .i64 k := ((hdep ⟨2, .data⟩ (by simp) rfl (by decide)).2 rfl).2 rfl
          clear hdep hk hm hR hall hb
          go_simp
          exact hK _ _ rfl (Below.refl _ _)
      · intro a9 W2 K hR hm hdep hk hK hall
        replace hK : ∀ w', (∀ a', Go.Proofs.Ytidoaccidmmalaa.MacP.Ended _ _ _ _ a9 a' → _) → K a9 w' := hK
        obtain ⟨hsp, hn, hdf⟩ := hall rfl
        have hb := hR rfl
        have t0 := (hb.cell (p := ⟨gS, k * 2, none⟩) zJ).trans m0
        have t1 := (hb.cell (p := ⟨gS, k * 2 + 1, none⟩) zJ).trans m1
        have u0 := (hb.frozen (p := ⟨gS, k * 2, none⟩) zJ).trans g0
        have u1 := (hb.frozen (p := ⟨gS, k * 2 + 1, none⟩) zJ).trans g1
        have HW := Ha.out.below hb
        have h30 : a9.tmps.getD 30 undef = .agg #[.int .i64 y.1, .int .i64 y.2] := hsp 8 (by decide) rfl
        have h32 : a9.tmps.getD 32 undef = .pointer (some ⟨gS, k * 2, none⟩) := hsp 10 (by decide) rfl
        obtain ⟨w9, hwS⟩ : ∃ W, W = ((W2.setCell ⟨gS, k * 2, none⟩ (.int .i64 y.1)).setCell ⟨gS, k * 2 + 1, none⟩ (.int .i64 y.2)) := ⟨_, rfl⟩
        have hKK := Lib.hid (hK w9)
        have H9 := Lib.hid (show OwnT w9 w1.heap.size bL (u.upto u.tk (k + 1)) gC gU gI gS by rw [hwS, ← upto_set hkk.out, hyk.out]; exact HW.setS (by rw [hul'.out]; exact hkk.out) y)
        have g9 : W2.grownBy w9 (some gS) := by rw [hwS]; exact set2_grown _ _ _ _ _ _
        have B9 := Lib.hid (show Below w1.heap.size w3 w9 from (Ba.out.trans (hb.mono hsa.out)).trans (grown_below g9 (fun j hj => by cases hj; exact HW.b.ls) (Nat.le_trans hsa.out hb.size)))
        clear HW g9
        clear hK hsp hR hall hm hdep hb
        replace hn := Lib.hid hn
        replace hk := Lib.hid hk
        have q30 : a9.tmps[30]?.getD undef = .agg #[.int .i64 y.1, .int .i64 y.2] := by simpa [Array.getD_eq_getD_getElem?] using h30
        clear h30
        have q32 : a9.tmps[32]?.getD undef = .pointer (some ⟨gS, k * 2, none⟩) := by simpa [Array.getD_eq_getD_getElem?] using h32
        clear h32
        go_simp
        rw [← hwS]
        refine hKK.out ?_
        rintro am ⟨h1', h2', h3, h4⟩
        have hn2 := h1'.trans hn.out
        have hdf2 := h2'.trans hdf
        replace hk := hk.out
        clear hwS hn hdf h1' h2' q30 q32
        have s0 : am.tmps.getD 0 undef = tv t AC cC AU cU AI cI AS cS := (h3 0 (by decide +revert)).trans (hk 0 (by kernel_rfl))
        have s1 : am.tmps.getD 1 undef = .pointer (some ⟨w.heap.size, 0, none⟩) := (h3 1 (by decide +revert)).trans (hk 1 (by kernel_rfl))
        have s2 : am.tmps.getD 2 undef = .pointer (some ⟨n1, 0, none⟩) := (h3 2 (by decide +revert)).trans (hk 2 (by kernel_rfl))
        have s3 : am.tmps.getD 3 undef = .slice none 0 0 := (h3 3 (by decide +revert)).trans (hk 3 (by kernel_rfl))
        have s4 : am.tmps.getD 4 undef = .int .i64 0 := (h3 4 (by decide +revert)).trans (hk 4 (by kernel_rfl))
        have s5 : am.tmps.getD 5 undef = .pointer (some ⟨bL, 0, none⟩) := (h3 5 (by decide +revert)).trans (hk 5 (by kernel_rfl))
        have s6 : am.tmps.getD 6 undef = .int .i64 k := (h3 6 (by decide +revert)).trans (hk 6 (by kernel_rfl))
        have s7 : am.tmps.getD 7 undef = .pointer (some ⟨bX, 0, none⟩) := (h3 7 (by decide +revert)).trans (hk 7 (by kernel_rfl))
        have s8 : am.tmps.getD 8 undef = .agg #[.int .i64 t.self.id, .slice AC t.self.costs.length cC, .slice AU t.self.ups.length cU, .slice AI t.self.infos.length cI, .slice AS t.states.length cS, .int .i64 t.mx, .int .i64 t.dl] := (h3 8 (by decide +revert)).trans (hk 8 (by kernel_rfl))
        have s9 : am.tmps.getD 9 undef = .bool true := (h3 9 (by decide +revert)).trans (hk 9 (by kernel_rfl))
        have s10 : am.tmps.getD 10 undef = .bool false := (h3 10 (by decide +revert)).trans (hk 10 (by kernel_rfl))
        have s11 : am.tmps.getD 11 undef = undef := (h3 11 (by decide +revert)).trans (hk 11 (by kernel_rfl))
        have s12 : am.tmps.getD 12 undef = .agg #[.int .i64 t.self.id, .slice AC t.self.costs.length cC, .slice AU t.self.ups.length cU, .slice AI t.self.infos.length cI, .slice AS t.states.length cS, .int .i64 t.mx, .int .i64 t.dl] := (h3 12 (by decide +revert)).trans (hk 12 (by kernel_rfl))
        have s13 : am.tmps.getD 13 undef = tvO u gC gU gI gS := (h3 13 (by decide +revert)).trans (hk 13 (by kernel_rfl))
        have s14 : am.tmps.getD 14 undef = .pointer (some ⟨bL, 4, none⟩) := (h3 14 (by decide +revert)).trans (hk 14 (by kernel_rfl))
        have s15 : am.tmps.getD 15 undef = .slice (some ⟨gS, 0, none⟩) u.states.length u.states.length := (h3 15 (by decide +revert)).trans (hk 15 (by kernel_rfl))
        have s16 : am.tmps.getD 16 undef = .int .i64 u.states.length := (h3 16 (by decide +revert)).trans (hk 16 (by kernel_rfl))
        have s17 : am.tmps.getD 17 undef = .int .i64 k := (h3 17 (by decide +revert)).trans (hk 17 (by kernel_rfl))
        have s34 : am.tmps.getD 34 undef = undef := (h3 34 (by decide +revert)).trans (hk 34 (by kernel_rfl))
        have s35 : am.tmps.getD 35 undef = undef := (h3 35 (by decide +revert)).trans (hk 35 (by kernel_rfl))
        have s36 : am.tmps.getD 36 undef = undef := (h3 36 (by decide +revert)).trans (hk 36 (by kernel_rfl))
        clear hk hKK h3 h4
        obtain ⟨tm, df⟩ := am
        have e := arr_out tm 37 hn2
        replace e : tm = #[tm.getD 0 undef, tm.getD 1 undef, tm.getD 2 undef, tm.getD 3 undef, tm.getD 4 undef, tm.getD 5 undef, tm.getD 6 undef, tm.getD 7 undef, tm.getD 8 undef, tm.getD 9 undef, tm.getD 10 undef, tm.getD 11 undef, tm.getD 12 undef, tm.getD 13 undef, tm.getD 14 undef, tm.getD 15 undef, tm.getD 16 undef, tm.getD 17 undef, tm.getD 18 undef, tm.getD 19 undef, tm.getD 20 undef, tm.getD 21 undef, tm.getD 22 undef, tm.getD 23 undef, tm.getD 24 undef, tm.getD 25 undef, tm.getD 26 undef, tm.getD 27 undef, tm.getD 28 undef, tm.getD 29 undef, tm.getD 30 undef, tm.getD 31 undef, tm.getD 32 undef, tm.getD 33 undef, tm.getD 34 undef, tm.getD 35 undef, tm.getD 36 undef] := e
        simp only at s0 s1 s2 s3 s4 s5 s6 s7 s8 s9 s10 s11 s12 s13 s14 s15 s16 s17 s34 s35 s36 hdf2
        rw [s0, s1, s2, s3, s4, s5, s6, s7, s8, s9, s10, s11, s12, s13, s14, s15, s16, s17, s34, s35, s36] at e
        subst hdf2
        clear s0 s1 s2 s3 s4 s5 s6 s7 s8 s9 s10 s11 s12 s13 s14 s15 s16 s17 s34 s35 s36 hn2
        generalize tm.getD 18 undef = u18 at e
        generalize tm.getD 19 undef = u19 at e
        generalize tm.getD 20 undef = u20 at e
        generalize tm.getD 21 undef = u21 at e
        generalize tm.getD 22 undef = u22 at e
        generalize tm.getD 23 undef = u23 at e
        generalize tm.getD 24 undef = u24 at e
        generalize tm.getD 25 undef = u25 at e
        generalize tm.getD 26 undef = u26 at e
        generalize tm.getD 27 undef = u27 at e
        generalize tm.getD 28 undef = u28 at e
        generalize tm.getD 29 undef = u29 at e
        generalize tm.getD 30 undef = u30 at e
        generalize tm.getD 31 undef = u31 at e
        generalize tm.getD 32 undef = u32 at e
        generalize tm.getD 33 undef = u33 at e
        subst e
        go_wp2_with fail
        go_roundw
        case rel => exact ⟨k + 1, by have := hkk.out; omega, by go_num, H9.out, B9.out⟩
        case measure => simp [intOf]; omega
    · obtain rfl : k = u.states.length := by omega
      rw [upto_tick] at H
      obtain ⟨z, hz⟩ : ∃ v, u.ticked = v := ⟨_, rfl⟩
      have hvs : z.states.length = u.states.length := by rw [← hz]; exact ticked_len
      have ev0 : z.self = u.self := by rw [← hz]; rfl
      have ev1 : z.mx = u.mx := by rw [← hz]; rfl
      have hul9 : Len z := by rw [← hz]; exact hulen.out
      rw [hz] at H
      have cS := Lib.hid (show ∀ W : World, TreeR W z (some ⟨gC, 0, none⟩) z.self.costs.length (some ⟨gU, 0, none⟩) z.self.ups.length (some ⟨gI, 0, none⟩) z.self.infos.length (some ⟨gS, 0, none⟩) z.states.length → Calls Try.prog 52 #[tvO z gC gU gI gS] W fun e w' => ∃ A c, e = .returned (.slice A z.sends.length c) ∧ RowD w' A z.sends.length c z.sends ∧ (∀ a, A = some a → W.heap.size ≤ a.block) ∧ Below W.heap.size W w' from fun W h => o_sends (by rw [ev0]; exact huself.out.1) (by rw [hvs, ev0]; exact huself.out.2.1) (by rw [ev1]; exact huself.out.2.2) hul9 h)
      have H9 := Lib.hid H
      have X9 := Lib.hid (show Bx wr n1 29 #[.int .i64 0, .slice none 0 0, .slice none 0 0, .slice none 0 0, .slice none 0 0, .int .i64 0, .int .i64 0] from (hb9.block n1 hx9.out).trans X0'.out)
      have B9 := Lib.hid (show Below w.heap.size w wr from B0'.out.trans (hb9.mono hs9.out))
      have zS := Lib.hid (show w1.heap.size ≤ wr.heap.size from Nat.le_trans S0.out hb9.size)
      replace hz := Lib.hid hz
      replace hul := Lib.hid hul
      clear H hb9 o0 o1 o2 o3 o4 o5 o6 zL ev0 ev1 hvs hul9
      have zL := H9.out.x.lt
      have o0 := H9.out.c (i := 0) rfl
      have o1 := H9.out.c (i := 1) rfl
      have o2 := H9.out.c (i := 2) rfl
      have o3 := H9.out.c (i := 3) rfl
      have o4 := H9.out.c (i := 4) rfl
      have o5 := H9.out.c (i := 5) rfl
      have o6 := H9.out.c (i := 6) rfl
      go_upto_region 9 with fail
      refine wp_region_ends (by kernel_rfl) (fun ix => match ix with | 0 => 34 | 1 => 35 | 2 => 36 | _ => 0) 3 (by kernel_rfl) (fun i v W => match i with | 0 => v = tvO z gC gU gI gS | 1 => v = tvO z gC gU gI gS | 2 => ∃ A c, v = .slice A z.sends.length c ∧ RowD W A z.sends.length c z.sends ∧ ∀ a, A = some a → wr.heap.size ≤ a.block | _ => True) (fun i v W W' h hb => by
          match i with
          | 0 => exact h
          | 1 => exact h
          | 2 => exact (by obtain ⟨A, c, h1, h2, h3⟩ := h; exact ⟨A, c, h1, h2.below hb, h3⟩)
          | n + 3 => exact trivial) ?_ ?_
      refine ⟨?_, ?_, ?_, trivial⟩
      · as_aux_lemma =>
          intro a W2 K hb hdep hk hK
          replace hK : ∀ v w', (v = tvO z gC gU gI gS) → Below W2.heap.size W2 w' → K (a.put (some 34) v) w' := hK
          have d5 : a.tmps.getD 5 undef = .pointer (some ⟨bL, 0, none⟩) := hk 5 (by kernel_rfl)
          have t0 := (hb.cell (p := ⟨bL, 0, none⟩) zL).trans o0
          have t1 := (hb.cell (p := ⟨bL, 1, none⟩) zL).trans o1
          have t2 := (hb.cell (p := ⟨bL, 2, none⟩) zL).trans o2
          have t3 := (hb.cell (p := ⟨bL, 3, none⟩) zL).trans o3
          have t4 := (hb.cell (p := ⟨bL, 4, none⟩) zL).trans o4
          have t5 := (hb.cell (p := ⟨bL, 5, none⟩) zL).trans o5
          have t6 := (hb.cell (p := ⟨bL, 6, none⟩) zL).trans o6
          clear hdep hk hb
          go_simp
          exact hK _ _ rfl (Below.refl _ _)
      · as_aux_lemma =>
          intro a W2 K hb hdep hk hK
          replace hK : ∀ v w', (v = tvO z gC gU gI gS) → Below W2.heap.size W2 w' → K (a.put (some 35) v) w' := hK
          have d5 : a.tmps.getD 5 undef = .pointer (some ⟨bL, 0, none⟩) := hk 5 (by kernel_rfl)
          have t0 := (hb.cell (p := ⟨bL, 0, none⟩) zL).trans o0
          have t1 := (hb.cell (p := ⟨bL, 1, none⟩) zL).trans o1
          have t2 := (hb.cell (p := ⟨bL, 2, none⟩) zL).trans o2
          have t3 := (hb.cell (p := ⟨bL, 3, none⟩) zL).trans o3
          have t4 := (hb.cell (p := ⟨bL, 4, none⟩) zL).trans o4
          have t5 := (hb.cell (p := ⟨bL, 5, none⟩) zL).trans o5
          have t6 := (hb.cell (p := ⟨bL, 6, none⟩) zL).trans o6
          clear hdep hk hb
          go_simp
          exact hK _ _ rfl (Below.refl _ _)
      · as_aux_lemma =>
          intro a W2 K hb hdep hk hK
          replace hK : ∀ v w', (∃ A c, v = .slice A z.sends.length c ∧ RowD w' A z.sends.length c z.sends ∧ ∀ a, A = some a → wr.heap.size ≤ a.block) → Below W2.heap.size W2 w' → K (a.put (some 36) v) w' := hK
          have d35 : a.tmps.getD 35 undef = tvO z gC gU gI gS := hdep ⟨1, .data⟩ (by simp) rfl
          have hcall := Lib.hid (cS.out W2 (H9.out.below hb).b.tree)
          have hsz := Lib.hid hb.size
          clear hdep hk hb
          have q35 : a.tmps[35]?.getD undef = tvO z gC gU gI gS := by simpa [Array.getD_eq_getD_getElem?] using d35
          clear d35
          go_simp
          refine hcall.out.mono ?_
          rintro e w9 ⟨A, cA, rfl, r1, r2, r3⟩
          exact hK _ _ ⟨A, cA, rfl, r1, fun a ha => Nat.le_trans hsz.out (r2 a ha)⟩ r3
      intro a W3 hb3 hsp hk hn hdf
      obtain ⟨A9, c9, h9, d9, f9⟩ := hsp 2 (by decide)
      have s2 : a.tmps.getD 2 undef = .pointer (some ⟨n1, 0, none⟩) := hk 2 (by kernel_rfl)
      have s4 : a.tmps.getD 4 undef = .int .i64 0 := hk 4 (by kernel_rfl)
      have s5 : a.tmps.getD 5 undef = .pointer (some ⟨bL, 0, none⟩) := hk 5 (by kernel_rfl)
      have s34 : a.tmps.getD 34 undef = tvO z gC gU gI gS := hsp 0 (by decide)
      have s35 : a.tmps.getD 35 undef = tvO z gC gU gI gS := hsp 1 (by decide)
      have s36 : a.tmps.getD 36 undef = .slice A9 z.sends.length c9 := h9
      clear hk hsp h9
      obtain ⟨tm, df⟩ := a
      have e := arr_out tm 37 hn
      replace e : tm = #[tm.getD 0 undef, tm.getD 1 undef, tm.getD 2 undef, tm.getD 3 undef, tm.getD 4 undef, tm.getD 5 undef, tm.getD 6 undef, tm.getD 7 undef, tm.getD 8 undef, tm.getD 9 undef, tm.getD 10 undef, tm.getD 11 undef, tm.getD 12 undef, tm.getD 13 undef, tm.getD 14 undef, tm.getD 15 undef, tm.getD 16 undef, tm.getD 17 undef, tm.getD 18 undef, tm.getD 19 undef, tm.getD 20 undef, tm.getD 21 undef, tm.getD 22 undef, tm.getD 23 undef, tm.getD 24 undef, tm.getD 25 undef, tm.getD 26 undef, tm.getD 27 undef, tm.getD 28 undef, tm.getD 29 undef, tm.getD 30 undef, tm.getD 31 undef, tm.getD 32 undef, tm.getD 33 undef, tm.getD 34 undef, tm.getD 35 undef, tm.getD 36 undef] := e
      simp only at s2 s4 s5 s34 s35 s36 hdf
      rw [s2, s4, s5, s34, s35, s36] at e
      subst hdf
      clear s2 s4 s5 s34 s35 s36 hn
      generalize tm.getD 0 undef = u0 at e
      generalize tm.getD 1 undef = u1 at e
      generalize tm.getD 3 undef = u3 at e
      generalize tm.getD 6 undef = u6 at e
      generalize tm.getD 7 undef = u7 at e
      generalize tm.getD 8 undef = u8 at e
      generalize tm.getD 9 undef = u9 at e
      generalize tm.getD 10 undef = u10 at e
      generalize tm.getD 11 undef = u11 at e
      generalize tm.getD 12 undef = u12 at e
      generalize tm.getD 13 undef = u13 at e
      generalize tm.getD 14 undef = u14 at e
      generalize tm.getD 15 undef = u15 at e
      generalize tm.getD 16 undef = u16 at e
      generalize tm.getD 17 undef = u17 at e
      generalize tm.getD 18 undef = u18 at e
      generalize tm.getD 19 undef = u19 at e
      generalize tm.getD 20 undef = u20 at e
      generalize tm.getD 21 undef = u21 at e
      generalize tm.getD 22 undef = u22 at e
      generalize tm.getD 23 undef = u23 at e
      generalize tm.getD 24 undef = u24 at e
      generalize tm.getD 25 undef = u25 at e
      generalize tm.getD 26 undef = u26 at e
      generalize tm.getD 27 undef = u27 at e
      generalize tm.getD 28 undef = u28 at e
      generalize tm.getD 29 undef = u29 at e
      generalize tm.getD 30 undef = u30 at e
      generalize tm.getD 31 undef = u31 at e
      generalize tm.getD 32 undef = u32 at e
      generalize tm.getD 33 undef = u33 at e
      subst e
      simp only [List.drop_succ_cons, List.drop_zero]
      have XB := X9.out.below hb3
      have zx := XB.lt
      have x0 := XB.c (i := 0) rfl
      have g0 := XB.f 0
      have x1 := XB.c (i := 1) rfl
      have g1 := XB.f 1
      have x2 := XB.c (i := 2) rfl
      have g2 := XB.f 2
      have x3 := XB.c (i := 3) rfl
      have g3 := XB.f 3
      have x4 := XB.c (i := 4) rfl
      have g4 := XB.f 4
      have x5 := XB.c (i := 5) rfl
      have g5 := XB.f 5
      have x6 := XB.c (i := 6) rfl
      have g6 := XB.f 6
      have XB9 := Lib.hid XB
      replace d9 := Lib.hid d9
      replace f9 := Lib.hid f9
      have HB := Lib.hid (H9.out.below hb3)
      have BB := Lib.hid (bt B9.out hb3)
      clear XB hb3 zL o0 o1 o2 o3 o4 o5 o6
      go_wp2_with fail
      refine bodyPost_ret (v := .tuple #[tvO z gC gU gI gS, .slice A9 z.sends.length c9, .int .i64 0]) (by simp [results, Try.results16, go_sem, x0, x1, x2, x3, x4, x5, x6]) rfl ?_
      rw [hz.out]
      exact Blks.retD (mk := fun v l => .tuple #[v, l, .int .i64 0]) ((Blks.set7 HB.out.b XB9.out).base hs9.out) (sets_rowD d9.out set7_grown (fun a ha _ => by have := f9.out a ha; have := hx9.out; have := zS.out; omega)) (set7_bel BB.out hge.out)
end Go.Proofs.Ytidoaccidmmalaa.StpP

/-
  Contracts of stp.silent, stp.New.
-/
namespace Go.Proofs.Ytidoaccidmmalaa.StpP
open Go.Proofs.Ytidoaccidmmalaa.MacP (arr_out Wrote wp_region_ends outM)
open Go.RowKit Go.Sort Go.Proofs.Ytidoaccidmmalaa.SliceP Go.Proofs.Ytidoaccidmmalaa.BoxP Go.Proofs.Ytidoaccidmmalaa.VecP Go.Proofs.Ytidoaccidmmalaa.RoleP
open Go.Proofs.Ytidoaccidmmalaa.IntP (RowI SlI OwnI)
open Go.Proofs.Ytidoaccidmmalaa.BoolP (RowB SlB OwnB)
open Go.Proofs.Ytidoaccidmmalaa.PortP (okS roleS tickS sv)
set_option linter.unusedVariables false
set_option maxRecDepth 100000
def upsK (n k : Nat) : List Bool := List.replicate k true ++ List.replicate (n - k) false
theorem upsK_len {n k : Nat} (h : k ≤ n) : (upsK n k).length = n := by simp [upsK]; omega
theorem upsK_step {n k : Nat} (h : k < n) : (upsK n k).set k true = upsK n (k + 1) := by
  unfold upsK
  rw [List.set_append_right _ _ (by simp)]
  obtain ⟨m, hm⟩ : ∃ m, n - k = m + 1 := ⟨n - k - 1, by omega⟩
  rw [hm, List.length_replicate, Nat.sub_self, List.replicate_succ, List.set_cons_zero, show n - (k + 1) = m by omega, List.replicate_succ' (n := k)]
  simp
theorem upsK_all (costs : List Int) : upsK costs.length costs.length = costs.map fun _ => true := by
  unfold upsK
  rw [Nat.sub_self]
  simp [List.map_const']
theorem blk_set {w : World} {g n k : Nat} (h : Blk w g 4 (BoolP.cB (upsK n k))) (hk : k < n) : Blk (w.setCell ⟨g, k, none⟩ (.bool true)) g 4 (BoolP.cB (upsK n (k + 1))) := by
  have := Blk.set1 h (BoolP.whole _) (i := k) (by rw [BoolP.cB_length, upsK_len (by omega)]; exact hk) (.bool true)
  rw [← upsK_step hk]
  unfold BoolP.cB at this ⊢
  rw [List.map_set]
  exact this
theorem blk_at {w : World} {g n k : Nat} (h : Blk w g 4 (BoolP.cB (upsK n k))) (hk : k < n) : ∃ b, w.cell? ⟨g, k, none⟩ = some (.bool b) := by
  obtain ⟨b, hb⟩ : ∃ b, (upsK n k)[k]? = some b := ⟨_, List.getElem?_eq_getElem (by rw [upsK_len (by omega)]; exact hk)⟩
  have hs : (BoolP.cB (upsK n k))[k]? = some [.bool b] := by unfold BoolP.cB; rw [List.getElem?_map, hb]; rfl
  exact ⟨b, by simpa using h.cell (BoolP.whole _) hs (j := 0) rfl⟩
theorem nones (costs : List Int) : List.replicate costs.length N0.cells = (costs.map fun _ => N0).map N.cells := by rw [List.map_const', List.map_replicate]
theorem zeros (costs : List Int) : List.replicate costs.length (sc (0, 0)) = (costs.map fun _ => ((0 : Int), (0 : Int))).map sc := by rw [List.map_const', List.map_replicate]
theorem set4g {w : World} {b : Nat} {v0 v1 v2 v3 : Value} : w.grownBy ((((w.setCell ⟨b, 0, none⟩ v0).setCell ⟨b, 1, none⟩ v1).setCell ⟨b, 2, none⟩ v2).setCell ⟨b, 3, none⟩ v3) (some b) := (((setCell_grown _ _ _ _).trans (setCell_grown _ _ _ _)).trans (setCell_grown _ _ _ _)).trans (setCell_grown _ _ _ _)
set_option maxHeartbeats 16000000 in
theorem o_silent {id : Int} {costs : List Int} {AC : Option Addr} {cC : Nat} {w : World} (hl : costs.length ≤ 8) (hr : RowI w AC costs.length cC costs) : Calls Try.prog 27 #[.int .i64 id, .slice AC costs.length cC] w fun e w' => ∃ gC gU gI, e = .returned (.agg #[.int .i64 id, .slice (some ⟨gC, 0, none⟩) costs.length costs.length, .slice (some ⟨gU, 0, none⟩) costs.length costs.length, .slice (some ⟨gI, 0, none⟩) costs.length costs.length]) ∧ Blk w' gC 3 (IntP.cI costs) ∧ Blk w' gU 4 (BoolP.cB (costs.map fun _ => true)) ∧ Blk w' gI 66 ((costs.map fun _ => N0).map N.cells) ∧ w.heap.size ≤ gC ∧ w.heap.size ≤ gU ∧ w.heap.size ≤ gI ∧ Below w.heap.size w w' := by
  obtain ⟨w0, hw0⟩ : ∃ W, W = w.alloc (.cells #[.int .i64 0, .slice none 0 0, .slice none 0 0, .slice none 0 0] 26) := ⟨_, rfl⟩
  have b0 : Below w.heap.size w w0 := by rw [hw0]; exact (Below.refl _ _).alloc (Nat.le_refl _) _
  have X := Lib.hid (show Bx w0 w.heap.size 26 #[.int .i64 0, .slice none 0 0, .slice none 0 0, .slice none 0 0] by rw [hw0]; exact Bx.new _ _ _ rfl)
  obtain ⟨w1, hmk, hbk, hb1, hs1⟩ := run_make_blk (P := Try.prog) w0 23 BoolP.elB zv_bool (size := 1) rfl costs.length (by omega)
  obtain ⟨gU, hgU⟩ : ∃ g, w0.heap.size = g := ⟨_, rfl⟩
  rw [hgU] at hmk hbk
  have K1 := Lib.hid (show Blk w1 gU 4 (BoolP.cB (upsK costs.length 0)) by
    have e : BoolP.cB (upsK costs.length 0) = List.replicate costs.length ((.bool false : Value).cells.toList) := by unfold upsK BoolP.cB; simp [Value.cells]
    rw [e]; exact hbk)
  have R0 := Lib.hid (hr.below b0)
  have B0 := Lib.hid b0
  have hlt := Lib.hid (show w.heap.size < gU by rw [← hgU]; exact X.out.lt)
  have B1 := Lib.hid (show Below gU w0 w1 by rw [← hgU]; exact hb1)
  have hsz1 := Lib.hid (show gU ≤ w1.heap.size by omega)
  have hsz0 := Lib.hid hgU
  clear hr b0 hbk hb1 hs1 hgU
  go_enter Try.func27, Try.ntmps27
  go_upto_region 1 with fail
  rw [← hw0]
  clear hw0
  go_wp2_with fail
  clear hmk
  go_loopw [12] (fun i wr => ∃ k : Nat, k ≤ costs.length ∧ i = .int .i64 k ∧ Blk wr gU 4 (BoolP.cB (upsK costs.length k)) ∧ Below gU w0 wr) (fun i _ => costs.length - (intOf i).toNat)
  case atStart => exact ⟨0, by omega, rfl, K1.out, B1.out⟩
  case round =>
    clear K1 B1
    obtain ⟨k, hk, rfl, K, hb⟩ := hrel
    by_cases hkn : k < costs.length
    · have hkl : (k : Int) < (costs.length : Int) := by omega
      obtain ⟨b9, c9⟩ := blk_at K hkn
      have f9 := K.free k
      have zU := K.lt
      have K9 := Lib.hid (blk_set K hkn)
      have B9 := Lib.hid (hb.setCell (p := ⟨gU, k, none⟩) (Nat.le_refl _) (.bool true))
      clear K hb
      go_wp2_with fail
      go_roundw
      case rel => exact ⟨k + 1, by omega, by go_num, K9.out, B9.out⟩
      case measure => simp [intOf]; omega
    · obtain rfl : k = costs.length := by omega
      rw [upsK_all] at K
      have K9 := Lib.hid K
      have hb9 := Lib.hid (show Below w0.heap.size w0 wr by rw [hsz0.out]; exact hb)
      have Rr := Lib.hid (R0.out.below hb9.out)
      have Xr := Lib.hid (X.out.below hb9.out)
      have hww := Lib.hid (show w.heap.size ≤ wr.heap.size by have := hb9.out.size; have := hlt.out; have := hsz0.out; omega)
      clear K hb
      go_upto_region 7 with fail
      refine wp_region_ends (by kernel_rfl) (fun ix => match ix with | 0 => 19 | 1 => 20 | 2 => 21 | 3 => 22 | 4 => 23 | 5 => 24 | 6 => 25 | 7 => 26 | _ => 0) 8 (by kernel_rfl) (fun i v W => match i with | 0 => v = .int .i64 id | 1 => v = .slice AC costs.length cC | 2 => ∃ g, v = .slice (some ⟨g, 0, none⟩) costs.length costs.length ∧ Blk W g 3 (IntP.cI costs) ∧ wr.heap.size ≤ g | 3 => v = .slice (some ⟨gU, 0, none⟩) costs.length costs.length | 4 => v = .slice AC costs.length cC | 5 => v = .int .i64 costs.length | 6 => ∃ g, v = .slice (some ⟨g, 0, none⟩) costs.length costs.length ∧ Blk W g 66 ((costs.map fun _ => N0).map N.cells) ∧ wr.heap.size ≤ g | 7 => ∃ gC gI, v = .agg #[.int .i64 id, .slice (some ⟨gC, 0, none⟩) costs.length costs.length, .slice (some ⟨gU, 0, none⟩) costs.length costs.length, .slice (some ⟨gI, 0, none⟩) costs.length costs.length] ∧ Blk W gC 3 (IntP.cI costs) ∧ Blk W gI 66 ((costs.map fun _ => N0).map N.cells) ∧ wr.heap.size ≤ gC ∧ wr.heap.size ≤ gI | _ => True) (fun i v W W' h hb => by
          match i with
          | 0 => exact h
          | 1 => exact h
          | 2 => exact (by obtain ⟨g, h1, h2, h3⟩ := h; exact ⟨g, h1, h2.below hb, h3⟩)
          | 3 => exact h
          | 4 => exact h
          | 5 => exact h
          | 6 => exact (by obtain ⟨g, h1, h2, h3⟩ := h; exact ⟨g, h1, h2.below hb, h3⟩)
          | 7 => exact (by obtain ⟨g, g', h1, h2, h3, h4, h5⟩ := h; exact ⟨g, g', h1, h2.below hb, h3.below hb, h4, h5⟩)
          | n + 8 => exact trivial) ?_ ?_
      refine ⟨?_, ?_, ?_, ?_, ?_, ?_, ?_, ?_, trivial⟩
      · as_aux_lemma =>
          intro a W2 K hb hdep hk hK
          replace hK : ∀ v w', (v = .int .i64 id) → Below W2.heap.size W2 w' → K (a.put (some 19) v) w' := hK
          have d0 : a.tmps.getD 0 undef = .int .i64 id := hk 0 (by kernel_rfl)
          clear hdep hk hb
          go_simp
          exact hK _ _ rfl (Below.refl _ _)
      · as_aux_lemma =>
          intro a W2 K hb hdep hk hK
          replace hK : ∀ v w', (v = .slice AC costs.length cC) → Below W2.heap.size W2 w' → K (a.put (some 20) v) w' := hK
          have d1 : a.tmps.getD 1 undef = .slice AC costs.length cC := hk 1 (by kernel_rfl)
          clear hdep hk hb
          go_simp
          exact hK _ _ rfl (Below.refl _ _)
      · as_aux_lemma =>
          intro a W2 K hb hdep hk hK
          replace hK : ∀ v w', (∃ g, v = .slice (some ⟨g, 0, none⟩) costs.length costs.length ∧ Blk w' g 3 (IntP.cI costs) ∧ wr.heap.size ≤ g) → Below W2.heap.size W2 w' → K (a.put (some 21) v) w' := hK
          have d20 : a.tmps.getD 20 undef = .slice AC costs.length cC := hdep ⟨1, .data⟩ (by simp) rfl
          have hcall := Lib.hid (copied_int (Rr.out.below hb) (by omega))
          have hsz := Lib.hid hb.size
          clear hdep hk hb
          have q20 : a.tmps[20]?.getD undef = .slice AC costs.length cC := by simpa [Array.getD_eq_getD_getElem?] using d20
          clear d20
          go_simp
          refine hcall.out.mono ?_
          rintro e w9 ⟨g, rfl, r1, r2, r3⟩
          exact hK _ _ ⟨g, rfl, r2, Nat.le_trans hsz.out r1⟩ r3
      · as_aux_lemma =>
          intro a W2 K hb hdep hk hK
          replace hK : ∀ v w', (v = .slice (some ⟨gU, 0, none⟩) costs.length costs.length) → Below W2.heap.size W2 w' → K (a.put (some 22) v) w' := hK
          have d5 : a.tmps.getD 5 undef = .slice (some ⟨gU, 0, none⟩) costs.length costs.length := hk 5 (by kernel_rfl)
          clear hdep hk hb
          go_simp
          exact hK _ _ rfl (Below.refl _ _)
      · as_aux_lemma =>
          intro a W2 K hb hdep hk hK
          replace hK : ∀ v w', (v = .slice AC costs.length cC) → Below W2.heap.size W2 w' → K (a.put (some 23) v) w' := hK
          have d1 : a.tmps.getD 1 undef = .slice AC costs.length cC := hk 1 (by kernel_rfl)
          clear hdep hk hb
          go_simp
          exact hK _ _ rfl (Below.refl _ _)
      · as_aux_lemma =>
          intro a W2 K hb hdep hk hK
          replace hK : ∀ v w', (v = .int .i64 costs.length) → Below W2.heap.size W2 w' → K (a.put (some 24) v) w' := hK
          have d23 : a.tmps.getD 23 undef = .slice AC costs.length cC := hdep ⟨4, .data⟩ (by simp) rfl
          clear hdep hk hb
          go_simp
          exact hK _ _ rfl (Below.refl _ _)
      · as_aux_lemma =>
          intro a W2 K hb hdep hk hK
          replace hK : ∀ v w', (∃ g, v = .slice (some ⟨g, 0, none⟩) costs.length costs.length ∧ Blk w' g 66 ((costs.map fun _ => N0).map N.cells) ∧ wr.heap.size ≤ g) → Below W2.heap.size W2 w' → K (a.put (some 25) v) w' := hK
          have d24 : a.tmps.getD 24 undef = .int .i64 costs.length := hdep ⟨5, .data⟩ (by simp) rfl
          have hsz := Lib.hid hb.size
          clear hdep hk hb
          have q24 : a.tmps[24]?.getD undef = .int .i64 costs.length := by simpa [Array.getD_eq_getD_getElem?] using d24
          clear d24
          obtain ⟨w9, hm9, hk9, hb9', _⟩ := run_make_blk (P := Try.prog) W2 24 elN zv_info (size := 6) rfl costs.length (by omega)
          rw [show (nv false 0 0 0 0 0 : Value).cells.toList = N0.cells from rfl, nones] at hk9
          replace hk9 := Lib.hid hk9
          replace hb9' := Lib.hid hb9'
          go_simp
          exact hK _ _ ⟨_, rfl, hk9.out, hsz.out⟩ hb9'.out
      · as_aux_lemma =>
          intro a W2 K hb hdep hk hK
          replace hK : ∀ v w', (∃ gC gI, v = .agg #[.int .i64 id, .slice (some ⟨gC, 0, none⟩) costs.length costs.length, .slice (some ⟨gU, 0, none⟩) costs.length costs.length, .slice (some ⟨gI, 0, none⟩) costs.length costs.length] ∧ Blk w' gC 3 (IntP.cI costs) ∧ Blk w' gI 66 ((costs.map fun _ => N0).map N.cells) ∧ wr.heap.size ≤ gC ∧ wr.heap.size ≤ gI) → Below W2.heap.size W2 w' → K (a.put (some 26) v) w' := hK
          have d19 : a.tmps.getD 19 undef = .int .i64 id := hdep ⟨0, .data⟩ (by simp) rfl
          have d21 := hdep ⟨2, .data⟩ (by simp) rfl
          have d22 : a.tmps.getD 22 undef = .slice (some ⟨gU, 0, none⟩) costs.length costs.length := hdep ⟨3, .data⟩ (by simp) rfl
          have d25 := hdep ⟨6, .data⟩ (by simp) rfl
          clear hdep hk hb
          obtain ⟨g1, e21, k21, l21⟩ := d21
          obtain ⟨g2, e25, k25, l25⟩ := d25
          have q19 : a.tmps[19]?.getD undef = .int .i64 id := by simpa [Array.getD_eq_getD_getElem?] using d19
          clear d19
          have q22 : a.tmps[22]?.getD undef = .slice (some ⟨gU, 0, none⟩) costs.length costs.length := by simpa [Array.getD_eq_getD_getElem?] using d22
          clear d22
          have q21 : a.tmps[21]?.getD undef = .slice (some ⟨g1, 0, none⟩) costs.length costs.length := by simpa [Array.getD_eq_getD_getElem?] using e21
          have q25 : a.tmps[25]?.getD undef = .slice (some ⟨g2, 0, none⟩) costs.length costs.length := by simpa [Array.getD_eq_getD_getElem?] using e25
          clear e21 e25
          replace k21 := Lib.hid k21
          replace k25 := Lib.hid k25
          go_simp
          exact hK _ _ ⟨g1, g2, rfl, k21.out, k25.out, l21, l25⟩ (Below.refl _ _)
      intro a W3 hb3 hsp hk hn hdf
      obtain ⟨gC, gI, h9, k1, k2, l1, l2⟩ := hsp 7 (by decide)
      have s4 : a.tmps.getD 4 undef = .pointer (some ⟨w.heap.size, 0, none⟩) := hk 4 (by kernel_rfl)
      have s0 : a.tmps.getD 0 undef = .int .i64 id := hk 0 (by kernel_rfl)
      have s1 : a.tmps.getD 1 undef = .slice AC costs.length cC := hk 1 (by kernel_rfl)
      have s5 : a.tmps.getD 5 undef = .slice (some ⟨gU, 0, none⟩) costs.length costs.length := hk 5 (by kernel_rfl)
      have s19 : a.tmps.getD 19 undef = .int .i64 id := hsp 0 (by decide)
      have s20 : a.tmps.getD 20 undef = .slice AC costs.length cC := hsp 1 (by decide)
      have s22 : a.tmps.getD 22 undef = .slice (some ⟨gU, 0, none⟩) costs.length costs.length := hsp 3 (by decide)
      have s23 : a.tmps.getD 23 undef = .slice AC costs.length cC := hsp 4 (by decide)
      have s24 : a.tmps.getD 24 undef = .int .i64 costs.length := hsp 5 (by decide)
      have s26 : a.tmps.getD 26 undef = .agg #[.int .i64 id, .slice (some ⟨gC, 0, none⟩) costs.length costs.length, .slice (some ⟨gU, 0, none⟩) costs.length costs.length, .slice (some ⟨gI, 0, none⟩) costs.length costs.length] := h9
      clear hk hsp h9
      obtain ⟨tm, df⟩ := a
      have e := arr_out tm 27 hn
      replace e : tm = #[tm.getD 0 undef, tm.getD 1 undef, tm.getD 2 undef, tm.getD 3 undef, tm.getD 4 undef, tm.getD 5 undef, tm.getD 6 undef, tm.getD 7 undef, tm.getD 8 undef, tm.getD 9 undef, tm.getD 10 undef, tm.getD 11 undef, tm.getD 12 undef, tm.getD 13 undef, tm.getD 14 undef, tm.getD 15 undef, tm.getD 16 undef, tm.getD 17 undef, tm.getD 18 undef, tm.getD 19 undef, tm.getD 20 undef, tm.getD 21 undef, tm.getD 22 undef, tm.getD 23 undef, tm.getD 24 undef, tm.getD 25 undef, tm.getD 26 undef] := e
      simp only at s4 s0 s1 s5 s19 s20 s22 s23 s24 s26 hdf
      rw [s4, s0, s1, s5, s19, s20, s22, s23, s24, s26] at e
      subst hdf
      clear s4 s0 s1 s5 s19 s20 s22 s23 s24 s26 hn
      generalize tm.getD 2 undef = u2 at e
      generalize tm.getD 3 undef = u3 at e
      generalize tm.getD 6 undef = u6 at e
      generalize tm.getD 7 undef = u7 at e
      generalize tm.getD 8 undef = u8 at e
      generalize tm.getD 9 undef = u9 at e
      generalize tm.getD 10 undef = u10 at e
      generalize tm.getD 11 undef = u11 at e
      generalize tm.getD 12 undef = u12 at e
      generalize tm.getD 13 undef = u13 at e
      generalize tm.getD 14 undef = u14 at e
      generalize tm.getD 15 undef = u15 at e
      generalize tm.getD 16 undef = u16 at e
      generalize tm.getD 17 undef = u17 at e
      generalize tm.getD 18 undef = u18 at e
      generalize tm.getD 21 undef = u21 at e
      generalize tm.getD 25 undef = u25 at e
      subst e
      simp only [List.drop_succ_cons, List.drop_zero]
      have XB := Xr.out.below hb3
      have zx := XB.lt
      have x0 := XB.c (i := 0) rfl
      have g0 := XB.f 0
      have x1 := XB.c (i := 1) rfl
      have g1 := XB.f 1
      have x2 := XB.c (i := 2) rfl
      have g2 := XB.f 2
      have x3 := XB.c (i := 3) rfl
      have g3 := XB.f 3
      replace XB := Lib.hid XB
      replace k1 := Lib.hid k1
      replace k2 := Lib.hid k2
      replace l1 := Lib.hid l1
      replace l2 := Lib.hid l2
      have KU := Lib.hid (K9.out.below hb3)
      have BB := Lib.hid (bt (bt B0.out hb9.out) hb3)
      clear hb3
      go_wp2_with fail
      refine bodyPost_ret (v := .agg #[.int .i64 id, .slice (some ⟨gC, 0, none⟩) costs.length costs.length, .slice (some ⟨gU, 0, none⟩) costs.length costs.length, .slice (some ⟨gI, 0, none⟩) costs.length costs.length]) (by simp [results, Try.results27, go_sem, x0, x1, x2, x3]) rfl ⟨gC, gU, gI, rfl, ?_, ?_, ?_, Nat.le_trans hww.out l1.out, Nat.le_of_lt hlt.out, Nat.le_trans hww.out l2.out, ?_⟩
      · exact k1.out.grown set4g (by have := hww.out; have := l1.out; have := XB.out.lt; have := hlt.out; simp; intro e; have := Bx.neq (show Bx W3 gC _ _ from k1.out) XB.out (by decide); omega)
      · exact KU.out.grown set4g (by have := hlt.out; simp; omega)
      · exact k2.out.grown set4g (by simp; intro e; have := Bx.neq (show Bx W3 gI _ _ from k2.out) XB.out (by decide); omega)
      · exact (((BB.out.setCell (Nat.le_refl _) _).setCell (Nat.le_refl _) _).setCell (Nat.le_refl _) _).setCell (Nat.le_refl _) _
end Go.Proofs.Ytidoaccidmmalaa.StpP

/-
  Contract of stp.New.
-/
namespace Go.Proofs.Ytidoaccidmmalaa.StpP
open Go.Proofs.Ytidoaccidmmalaa.MacP (arr_out Wrote wp_region_ends outM)
open Go.RowKit Go.Sort Go.Proofs.Ytidoaccidmmalaa.SliceP Go.Proofs.Ytidoaccidmmalaa.BoxP Go.Proofs.Ytidoaccidmmalaa.VecP Go.Proofs.Ytidoaccidmmalaa.RoleP
open Go.Proofs.Ytidoaccidmmalaa.IntP (RowI SlI OwnI)
open Go.Proofs.Ytidoaccidmmalaa.BoolP (RowB SlB OwnB)
open Go.Proofs.Ytidoaccidmmalaa.PortP (okS roleS tickS sv)
set_option linter.unusedVariables false
set_option maxRecDepth 100000
theorem raw_tc (id : Int) (costs : List Int) (m d : Int) {gC gU gI gS : Nat} : tcO (rawT id costs m d) gC gU gI gS = #[.int .i64 id, .slice (some ⟨gC, 0, none⟩) costs.length costs.length, .slice (some ⟨gU, 0, none⟩) costs.length costs.length, .slice (some ⟨gI, 0, none⟩) costs.length costs.length, .slice (some ⟨gS, 0, none⟩) costs.length costs.length, .int .i64 m, .int .i64 d] := by simp [tcO, rawT, newSelf]
theorem new_most {id : Int} {costs : List Int} {m d : Int} (h : newOk id costs m d = true) : costs.length ≤ 8 ∧ mostB m = true ∧ okS 0 0 d = true ∧ (newSelf id costs).ok = true := by
  obtain ⟨h1, h2, h3, h4, h5⟩ := newOk_yes h
  have := (head_iff.1 (ok_head h1)).2.1.2
  refine ⟨this, by unfold mostB; simp; omega, PortP.ok_iff.2 ⟨⟨h4, h5⟩, .inl ⟨rfl, rfl⟩⟩, h1⟩
theorem new_self {id : Int} {costs : List Int} {m d : Int} (h : newOk id costs m d = false) (hm : mostB m = true) (hd : okS 0 0 d = true) : (newSelf id costs).ok = false := by
  have h2 := (PortP.ok_iff.1 hd).1
  unfold mostB at hm
  simp at hm
  cases hs : (newSelf id costs).ok with
  | false => rfl
  | true =>
    unfold newOk at h
    rw [hs] at h
    simp at h
    omega
theorem rr_to {id : Int} {costs : List Int} {m d : Int} {gC gU gI gS : Nat} {B : Nat} {W : World} {b : Bool} (hb : (newSelf id costs).ok = b) (hl : costs.length ≤ 8) (h : Blks W B (rawT id costs m d) gC gU gI gS) : Calls Try.prog 28 #[.agg #[.int .i64 id, .slice (some ⟨gC, 0, none⟩) costs.length costs.length, .slice (some ⟨gU, 0, none⟩) costs.length costs.length, .slice (some ⟨gI, 0, none⟩) costs.length costs.length]] W fun e w' => e = .returned (.bool b) ∧ Below W.heap.size W w' := by
  have h2 := o_right h.tree.self (by simp [rawT, newSelf]; omega)
  rw [show (rawT id costs m d).self.ok = b from hb] at h2
  simpa [rawT, newSelf] using h2
theorem retN0 {w W : World} {src : Nat → Prop} {mk : Value → Value} (hb : Below w.heap.size w W) : RetT w src T0 mk (.returned (mk (tv T0 none 0 none 0 none 0 none 0))) W := ret0 hb
set_option maxHeartbeats 16000000 in
theorem o_new_ok {id : Int} {costs : List Int} {m d : Int} {AC : Option Addr} {cC : Nat} {w : World} (hok : newOk id costs m d = true) (hr : RowI w AC costs.length cC costs) : Calls Try.prog 7 #[.int .i64 id, .slice AC costs.length cC, .int .i64 m, .int .i64 d] w (RetT w (fun b => Off b AC costs) (newT id costs m d) (fun v => .tuple #[v, .int .i64 0])) := by
  obtain ⟨w0, hw0⟩ : ∃ W, W = w.alloc (.cells #[.int .i64 0, .slice none 0 0, .slice none 0 0, .slice none 0 0, .slice none 0 0, .int .i64 0, .int .i64 0] 29) := ⟨_, rfl⟩
  have b0 : Below w.heap.size w w0 := by rw [hw0]; exact (Below.refl _ _).alloc (Nat.le_refl _) _
  have X := Lib.hid (show Bx w0 w.heap.size 29 #[.int .i64 0, .slice none 0 0, .slice none 0 0, .slice none 0 0, .slice none 0 0, .int .i64 0, .int .i64 0] by rw [hw0]; exact Bx.new _ _ _ rfl)
  have R := Lib.hid (hr.below b0)
  have B0 := b0
  have z0 := X.out.lt
  have hge := Lib.hid (Nat.le_refl w.heap.size)
  obtain ⟨hl8, hm, hd, hs⟩ := new_most hok
  have cM := Lib.hid fun W => most_to hm W
  have cD := Lib.hid fun W => delay_to hd W
  have cR := Lib.hid fun (W : World) (B gC gU gI gS : Nat) (h : Blks W B (rawT id costs m d) gC gU gI gS) => rr_to hs hl8 h
  have hpre := Lib.hid (new_pre hok)
  obtain ⟨u, hu⟩ : ∃ u, newT id costs m d = u := ⟨_, rfl⟩
  rw [hu]
  replace hu := Lib.hid hu
  have hl9 : ¬ (8 : Int) < (costs.length : Int) := by omega
  clear b0 hr hok hm hd hs
  go_enter Try.func7, Try.ntmps7
  go_upto_region 1 with fail
  rw [← hw0]
  clear hw0
  go_wp2_with fail
  go_at_call 25
  (with_reducible refine (cM.out _).mono ?_)
  rintro e w1 ⟨rfl, hb1⟩
  have X_w1 := Lib.hid (X.out.below hb1)
  have R_w1 := Lib.hid (R.out.below hb1)
  have z0_w1 : w.heap.size < w1.heap.size := Nat.lt_of_lt_of_le z0 hb1.size
  have B_w1 := bt B0 hb1
  clear X R z0 B0 hb1
  clear cM
  go_wp2_with fail
  go_at_call 26
  (with_reducible refine (cD.out _).mono ?_)
  rintro e w2 ⟨rfl, hb2⟩
  have X_w2 := Lib.hid (X_w1.out.below hb2)
  have R_w2 := Lib.hid (R_w1.out.below hb2)
  have z0_w2 : w.heap.size < w2.heap.size := Nat.lt_of_lt_of_le z0_w1 hb2.size
  have B_w2 := bt B_w1 hb2
  clear X_w1 R_w1 z0_w1 B_w1 hb2
  clear cD hl9
  have hs9 := Lib.hid (show w.heap.size ≤ w2.heap.size from Nat.le_of_lt z0_w2)
  have hx9 := Lib.hid (show w.heap.size < w2.heap.size from z0_w2)
  have Rr := R_w2
  have Xr := X_w2
  have Br := Lib.hid B_w2
  clear B_w2 R_w2 z0_w2
  go_upto_region 3 with fail
  refine wp_region_ends (by kernel_rfl) (fun ix => match ix with | 0 => 25 | 1 => 26 | 2 => 27 | 3 => 28 | 4 => 29 | 5 => 30 | 6 => 31 | 7 => 32 | 8 => 33 | 9 => 10 | _ => 0) 10 (by kernel_rfl) (fun i v W => match i with | 0 => v = .int .i64 id | 1 => v = .slice AC costs.length cC | 2 => ∃ gC gU gI, v = .agg #[.int .i64 id, .slice (some ⟨gC, 0, none⟩) costs.length costs.length, .slice (some ⟨gU, 0, none⟩) costs.length costs.length, .slice (some ⟨gI, 0, none⟩) costs.length costs.length] ∧ Blk W gC 3 (IntP.cI costs) ∧ Blk W gU 4 (BoolP.cB (costs.map fun _ => true)) ∧ Blk W gI 66 ((costs.map fun _ => N0).map N.cells) ∧ w2.heap.size ≤ gC ∧ w2.heap.size ≤ gU ∧ w2.heap.size ≤ gI | 3 => v = .slice AC costs.length cC | 4 => v = .int .i64 costs.length | 5 => ∃ g, v = .slice (some ⟨g, 0, none⟩) costs.length costs.length ∧ Blk W g 80 ((costs.map fun _ => ((0 : Int), (0 : Int))).map sc) ∧ w2.heap.size ≤ g | 6 => v = .int .i64 m | 7 => v = .int .i64 d | 8 => ∃ gC gU gI gS, v = .agg #[.int .i64 id, .slice (some ⟨gC, 0, none⟩) costs.length costs.length, .slice (some ⟨gU, 0, none⟩) costs.length costs.length, .slice (some ⟨gI, 0, none⟩) costs.length costs.length, .slice (some ⟨gS, 0, none⟩) costs.length costs.length, .int .i64 m, .int .i64 d] ∧ Blks W w2.heap.size (rawT id costs m d) gC gU gI gS | 9 => ∃ b, v = .pointer (some ⟨b, 0, none⟩) ∧ Bx W b 29 #[.int .i64 0, .slice none 0 0, .slice none 0 0, .slice none 0 0, .slice none 0 0, .int .i64 0, .int .i64 0] ∧ w2.heap.size ≤ b | _ => True) (fun i v W W' h hb => by
      match i with
      | 0 => exact h
      | 1 => exact h
      | 2 => exact (by obtain ⟨g1, g2, g3, h1, h2, h3, h4, h5⟩ := h; exact ⟨g1, g2, g3, h1, h2.below hb, h3.below hb, h4.below hb, h5⟩)
      | 3 => exact h
      | 4 => exact h
      | 5 => exact (by obtain ⟨g, h1, h2, h3⟩ := h; exact ⟨g, h1, h2.below hb, h3⟩)
      | 6 => exact h
      | 7 => exact h
      | 8 => exact (by obtain ⟨g1, g2, g3, g4, h1, h2⟩ := h; exact ⟨g1, g2, g3, g4, h1, h2.below hb⟩)
      | 9 => exact (by obtain ⟨b, h1, h2, h3⟩ := h; exact ⟨b, h1, h2.below hb, h3⟩)
      | n + 10 => exact trivial) ?_ ?_
  refine ⟨?_, ?_, ?_, ?_, ?_, ?_, ?_, ?_, ?_, ?_, trivial⟩
  · as_aux_lemma =>
      intro a W2 K hb hdep hk hK
      replace hK : ∀ v w', (v = .int .i64 id) → Below W2.heap.size W2 w' → K (a.put (some 25) v) w' := hK
      have d0 : a.tmps.getD 0 undef = .int .i64 id := hk 0 (by kernel_rfl)
      clear hdep hk hb
      go_simp
      exact hK _ _ rfl (Below.refl _ _)
  · as_aux_lemma =>
      intro a W2 K hb hdep hk hK
      replace hK : ∀ v w', (v = .slice AC costs.length cC) → Below W2.heap.size W2 w' → K (a.put (some 26) v) w' := hK
      have d1 : a.tmps.getD 1 undef = .slice AC costs.length cC := hk 1 (by kernel_rfl)
      clear hdep hk hb
      go_simp
      exact hK _ _ rfl (Below.refl _ _)
  · as_aux_lemma =>
      intro a W2 K hb hdep hk hK
      replace hK : ∀ v w', (∃ gC gU gI, v = .agg #[.int .i64 id, .slice (some ⟨gC, 0, none⟩) costs.length costs.length, .slice (some ⟨gU, 0, none⟩) costs.length costs.length, .slice (some ⟨gI, 0, none⟩) costs.length costs.length] ∧ Blk w' gC 3 (IntP.cI costs) ∧ Blk w' gU 4 (BoolP.cB (costs.map fun _ => true)) ∧ Blk w' gI 66 ((costs.map fun _ => N0).map N.cells) ∧ w2.heap.size ≤ gC ∧ w2.heap.size ≤ gU ∧ w2.heap.size ≤ gI) → Below W2.heap.size W2 w' → K (a.put (some 27) v) w' := hK
      have d25 : a.tmps.getD 25 undef = .int .i64 id := hdep ⟨0, .data⟩ (by simp) rfl
      have d26 : a.tmps.getD 26 undef = .slice AC costs.length cC := hdep ⟨1, .data⟩ (by simp) rfl
      have hcall := Lib.hid (o_silent (id := id) hl8 (Rr.out.below hb))
      have hsz := Lib.hid hb.size
      clear hdep hk hb
      have q25 : a.tmps[25]?.getD undef = .int .i64 id := by simpa [Array.getD_eq_getD_getElem?] using d25
      clear d25
      have q26 : a.tmps[26]?.getD undef = .slice AC costs.length cC := by simpa [Array.getD_eq_getD_getElem?] using d26
      clear d26
      go_simp
      refine hcall.out.mono ?_
      rintro e w9 ⟨g1, g2, g3, rfl, r1, r2, r3, r4, r5, r6, r7⟩
      exact hK _ _ ⟨g1, g2, g3, rfl, r1, r2, r3, Nat.le_trans hsz.out r4, Nat.le_trans hsz.out r5, Nat.le_trans hsz.out r6⟩ r7
  · as_aux_lemma =>
      intro a W2 K hb hdep hk hK
      replace hK : ∀ v w', (v = .slice AC costs.length cC) → Below W2.heap.size W2 w' → K (a.put (some 28) v) w' := hK
      have d1 : a.tmps.getD 1 undef = .slice AC costs.length cC := hk 1 (by kernel_rfl)
      clear hdep hk hb
      go_simp
      exact hK _ _ rfl (Below.refl _ _)
  · as_aux_lemma =>
      intro a W2 K hb hdep hk hK
      replace hK : ∀ v w', (v = .int .i64 costs.length) → Below W2.heap.size W2 w' → K (a.put (some 29) v) w' := hK
      have d28 : a.tmps.getD 28 undef = .slice AC costs.length cC := hdep ⟨3, .data⟩ (by simp) rfl
      clear hdep hk hb
      go_simp
      exact hK _ _ rfl (Below.refl _ _)
  · as_aux_lemma =>
      intro a W2 K hb hdep hk hK
      replace hK : ∀ v w', (∃ g, v = .slice (some ⟨g, 0, none⟩) costs.length costs.length ∧ Blk w' g 80 ((costs.map fun _ => ((0 : Int), (0 : Int))).map sc) ∧ w2.heap.size ≤ g) → Below W2.heap.size W2 w' → K (a.put (some 30) v) w' := hK
      have d29 : a.tmps.getD 29 undef = .int .i64 costs.length := hdep ⟨4, .data⟩ (by simp) rfl
      have hsz := Lib.hid hb.size
      clear hdep hk hb
      have q29 : a.tmps[29]?.getD undef = .int .i64 costs.length := by simpa [Array.getD_eq_getD_getElem?] using d29
      clear d29
      obtain ⟨w9, hm9, hk9, hb9', _⟩ := run_make_blk (P := Try.prog) W2 27 elP zv_state (size := 2) rfl costs.length (by omega)
      rw [show (.agg #[.int .i64 0, .int .i64 0] : Value).cells.toList = sc (0, 0) from rfl, zeros] at hk9
      replace hk9 := Lib.hid hk9
      replace hb9' := Lib.hid hb9'
      go_simp
      exact hK _ _ ⟨_, rfl, hk9.out, hsz.out⟩ hb9'.out
  · as_aux_lemma =>
      intro a W2 K hb hdep hk hK
      replace hK : ∀ v w', (v = .int .i64 m) → Below W2.heap.size W2 w' → K (a.put (some 31) v) w' := hK
      have d2 : a.tmps.getD 2 undef = .int .i64 m := hk 2 (by kernel_rfl)
      clear hdep hk hb
      go_simp
      exact hK _ _ rfl (Below.refl _ _)
  · as_aux_lemma =>
      intro a W2 K hb hdep hk hK
      replace hK : ∀ v w', (v = .int .i64 d) → Below W2.heap.size W2 w' → K (a.put (some 32) v) w' := hK
      have d3 : a.tmps.getD 3 undef = .int .i64 d := hk 3 (by kernel_rfl)
      clear hdep hk hb
      go_simp
      exact hK _ _ rfl (Below.refl _ _)
  · intro a W2 K hb hdep hk hK
    replace hK : ∀ v w', (∃ gC gU gI gS, v = .agg #[.int .i64 id, .slice (some ⟨gC, 0, none⟩) costs.length costs.length, .slice (some ⟨gU, 0, none⟩) costs.length costs.length, .slice (some ⟨gI, 0, none⟩) costs.length costs.length, .slice (some ⟨gS, 0, none⟩) costs.length costs.length, .int .i64 m, .int .i64 d] ∧ Blks w' w2.heap.size (rawT id costs m d) gC gU gI gS) → Below W2.heap.size W2 w' → K (a.put (some 33) v) w' := hK
    have d27 := hdep ⟨2, .data⟩ (by simp) rfl
    have d30 := hdep ⟨5, .data⟩ (by simp) rfl
    have d31 : a.tmps.getD 31 undef = .int .i64 m := hdep ⟨6, .data⟩ (by simp) rfl
    have d32 : a.tmps.getD 32 undef = .int .i64 d := hdep ⟨7, .data⟩ (by simp) rfl
    clear hdep hk hb
    obtain ⟨gC, gU, gI, e27, k1, k2, k3, l1, l2, l3⟩ := d27
    obtain ⟨gS, e30, k4, l4⟩ := d30
    have q31 : a.tmps[31]?.getD undef = .int .i64 m := by simpa [Array.getD_eq_getD_getElem?] using d31
    clear d31
    have q32 : a.tmps[32]?.getD undef = .int .i64 d := by simpa [Array.getD_eq_getD_getElem?] using d32
    clear d32
    have q27 : a.tmps[27]?.getD undef = .agg #[.int .i64 id, .slice (some ⟨gC, 0, none⟩) costs.length costs.length, .slice (some ⟨gU, 0, none⟩) costs.length costs.length, .slice (some ⟨gI, 0, none⟩) costs.length costs.length] := by simpa [Array.getD_eq_getD_getElem?] using e27
    have q30 : a.tmps[30]?.getD undef = .slice (some ⟨gS, 0, none⟩) costs.length costs.length := by simpa [Array.getD_eq_getD_getElem?] using e30
    clear e27 e30
    have hB := Lib.hid (show Blks W2 w2.heap.size (rawT id costs m d) gC gU gI gS from ⟨k1, k2, k3, k4, l1, l2, l3, l4⟩)
    clear k1 k2 k3 k4 l1 l2 l3 l4
    go_simp
    exact hK _ _ ⟨gC, gU, gI, gS, rfl, hB.out⟩ (Below.refl _ _)
  · as_aux_lemma =>
      intro a W2 K hb hdep hk hK
      replace hK : ∀ v w', (∃ b, v = .pointer (some ⟨b, 0, none⟩) ∧ Bx w' b 29 #[.int .i64 0, .slice none 0 0, .slice none 0 0, .slice none 0 0, .slice none 0 0, .int .i64 0, .int .i64 0] ∧ w2.heap.size ≤ b) → Below W2.heap.size W2 w' → K (a.put (some 10) v) w' := hK
      have hsz := Lib.hid hb.size
      clear hdep hk hb
      go_simp
      exact hK _ _ ⟨_, rfl, Bx.new _ _ _ rfl, hsz.out⟩ ((Below.refl _ _).alloc (Nat.le_refl _) _)
  intro a W3 hb3 hsp hk hn hdf
  obtain ⟨gC, gU, gI, gS, h33, bl⟩ := hsp 8 (by decide)
  obtain ⟨bO, h10, bx, lb⟩ := hsp 9 (by decide)
  have s0 : a.tmps.getD 0 undef = .int .i64 id := hk 0 (by kernel_rfl)
  have s1 : a.tmps.getD 1 undef = .slice AC costs.length cC := hk 1 (by kernel_rfl)
  have s2 : a.tmps.getD 2 undef = .int .i64 m := hk 2 (by kernel_rfl)
  have s3 : a.tmps.getD 3 undef = .int .i64 d := hk 3 (by kernel_rfl)
  have s8 : a.tmps.getD 8 undef = .pointer (some ⟨w.heap.size, 0, none⟩) := hk 8 (by kernel_rfl)
  have s9 : a.tmps.getD 9 undef = .int .i64 0 := hk 9 (by kernel_rfl)
  have s25 : a.tmps.getD 25 undef = .int .i64 id := hsp 0 (by decide)
  have s26 : a.tmps.getD 26 undef = .slice AC costs.length cC := hsp 1 (by decide)
  have s28 : a.tmps.getD 28 undef = .slice AC costs.length cC := hsp 3 (by decide)
  have s29 : a.tmps.getD 29 undef = .int .i64 costs.length := hsp 4 (by decide)
  have s31 : a.tmps.getD 31 undef = .int .i64 m := hsp 6 (by decide)
  have s32 : a.tmps.getD 32 undef = .int .i64 d := hsp 7 (by decide)
  have s33 : a.tmps.getD 33 undef = .agg #[.int .i64 id, .slice (some ⟨gC, 0, none⟩) costs.length costs.length, .slice (some ⟨gU, 0, none⟩) costs.length costs.length, .slice (some ⟨gI, 0, none⟩) costs.length costs.length, .slice (some ⟨gS, 0, none⟩) costs.length costs.length, .int .i64 m, .int .i64 d] := h33
  have s10 : a.tmps.getD 10 undef = .pointer (some ⟨bO, 0, none⟩) := h10
  clear hk hsp h33 h10
  obtain ⟨tm, df⟩ := a
  have e := arr_out tm 41 hn
  replace e : tm = #[tm.getD 0 undef, tm.getD 1 undef, tm.getD 2 undef, tm.getD 3 undef, tm.getD 4 undef, tm.getD 5 undef, tm.getD 6 undef, tm.getD 7 undef, tm.getD 8 undef, tm.getD 9 undef, tm.getD 10 undef, tm.getD 11 undef, tm.getD 12 undef, tm.getD 13 undef, tm.getD 14 undef, tm.getD 15 undef, tm.getD 16 undef, tm.getD 17 undef, tm.getD 18 undef, tm.getD 19 undef, tm.getD 20 undef, tm.getD 21 undef, tm.getD 22 undef, tm.getD 23 undef, tm.getD 24 undef, tm.getD 25 undef, tm.getD 26 undef, tm.getD 27 undef, tm.getD 28 undef, tm.getD 29 undef, tm.getD 30 undef, tm.getD 31 undef, tm.getD 32 undef, tm.getD 33 undef, tm.getD 34 undef, tm.getD 35 undef, tm.getD 36 undef, tm.getD 37 undef, tm.getD 38 undef, tm.getD 39 undef, tm.getD 40 undef] := e
  simp only at s0 s1 s2 s3 s8 s9 s25 s26 s28 s29 s31 s32 s33 s10 hdf
  rw [s0, s1, s2, s3, s8, s9, s25, s26, s28, s29, s31, s32, s33, s10] at e
  subst hdf
  clear s0 s1 s2 s3 s8 s9 s25 s26 s28 s29 s31 s32 s33 s10 hn
  generalize tm.getD 4 undef = u4 at e
  generalize tm.getD 5 undef = u5 at e
  generalize tm.getD 6 undef = u6 at e
  generalize tm.getD 7 undef = u7 at e
  generalize tm.getD 11 undef = u11 at e
  generalize tm.getD 12 undef = u12 at e
  generalize tm.getD 13 undef = u13 at e
  generalize tm.getD 14 undef = u14 at e
  generalize tm.getD 15 undef = u15 at e
  generalize tm.getD 16 undef = u16 at e
  generalize tm.getD 17 undef = u17 at e
  generalize tm.getD 18 undef = u18 at e
  generalize tm.getD 19 undef = u19 at e
  generalize tm.getD 20 undef = u20 at e
  generalize tm.getD 21 undef = u21 at e
  generalize tm.getD 22 undef = u22 at e
  generalize tm.getD 23 undef = u23 at e
  generalize tm.getD 24 undef = u24 at e
  generalize tm.getD 27 undef = u27 at e
  generalize tm.getD 30 undef = u30 at e
  generalize tm.getD 34 undef = u34 at e
  generalize tm.getD 35 undef = u35 at e
  generalize tm.getD 36 undef = u36 at e
  generalize tm.getD 37 undef = u37 at e
  generalize tm.getD 38 undef = u38 at e
  generalize tm.getD 39 undef = u39 at e
  generalize tm.getD 40 undef = u40 at e
  subst e
  simp only [List.drop_succ_cons, List.drop_zero]
  have zb := bx.lt
  have y0 := bx.c (i := 0) rfl
  have f0 := bx.f 0
  have y1 := bx.c (i := 1) rfl
  have f1 := bx.f 1
  have y2 := bx.c (i := 2) rfl
  have f2 := bx.f 2
  have y3 := bx.c (i := 3) rfl
  have f3 := bx.f 3
  have y4 := bx.c (i := 4) rfl
  have f4 := bx.f 4
  have y5 := bx.c (i := 5) rfl
  have f5 := bx.f 5
  have y6 := bx.c (i := 6) rfl
  have f6 := bx.f 6
  obtain ⟨w4, hw4⟩ : ∃ W, W = set7 W3 bO (.int .i64 id) (.slice (some ⟨gC, 0, none⟩) costs.length costs.length) (.slice (some ⟨gU, 0, none⟩) costs.length costs.length) (.slice (some ⟨gI, 0, none⟩) costs.length costs.length) (.slice (some ⟨gS, 0, none⟩) costs.length costs.length) (.int .i64 m) (.int .i64 d) := ⟨_, rfl⟩
  have H4 := Lib.hid (show OwnT w4 w2.heap.size bO (rawT id costs m d) gC gU gI gS from ⟨by rw [hw4, raw_tc]; exact set7_bx bx, by rw [hw4]; exact bl.set7 bx, lb⟩)
  have B4 := Lib.hid (show Below w.heap.size w w4 by rw [hw4]; exact set7_bel (bt Br.out hb3) (Nat.le_trans hs9.out lb))
  have X4 := Lib.hid (show Bx w4 w.heap.size 29 #[.int .i64 0, .slice none 0 0, .slice none 0 0, .slice none 0 0, .slice none 0 0, .int .i64 0, .int .i64 0] by rw [hw4]; exact set7_oth (Xr.out.below hb3) (by have := hx9.out; omega))
  have S4 := Lib.hid (show w2.heap.size ≤ w4.heap.size by rw [hw4]; simp [set7, World.setCell]; exact hb3.size)
  unfold set7 at hw4
  replace bl := Lib.hid bl
  replace lb := Lib.hid lb
  replace bx := Lib.hid bx
  clear hb3
  go_upto_region 4 with fail
  rw [← hw4]
  clear hw4 zb y0 f0 y1 f1 y2 f2 y3 f3 y4 f4 y5 f5 y6 f6
  have zz := H4.out.x.lt
  have e4 : Bx w4 bO 29 #[.int .i64 id, .slice (some ⟨gC, 0, none⟩) costs.length costs.length, .slice (some ⟨gU, 0, none⟩) costs.length costs.length, .slice (some ⟨gI, 0, none⟩) costs.length costs.length, .slice (some ⟨gS, 0, none⟩) costs.length costs.length, .int .i64 m, .int .i64 d] := by have := H4.out.x; rwa [raw_tc] at this
  have o0 := e4.c (i := 0) rfl
  have o1 := e4.c (i := 1) rfl
  have o2 := e4.c (i := 2) rfl
  have o3 := e4.c (i := 3) rfl
  have o4 := e4.c (i := 4) rfl
  have o5 := e4.c (i := 5) rfl
  have o6 := e4.c (i := 6) rfl
  go_wp2_with fail
  clear zz e4 o0 o1 o2 o3 o4 o5 o6
  go_at_call 28
  (with_reducible refine (cR.out _ _ _ _ _ _ H4.out.b).mono ?_)
  rintro e w5 ⟨rfl, hb5⟩
  have B5 := Lib.hid (bt B4.out hb5)
  have X5 := Lib.hid (X4.out.below hb5)
  have H5 := Lib.hid (H4.out.below hb5)
  have S5 := Lib.hid (show w2.heap.size ≤ w5.heap.size from Nat.le_trans S4.out hb5.size)
  have hset := Lib.hid (o_settle hpre.out S5.out H5.out)
  clear hb5 H4 S4 B4 X4
  go_wp2_with fail
  go_at_call 29
  (with_reducible refine hset.out.mono ?_)
  rintro e w6 ⟨rfl, h6, hb6⟩
  rw [show (rawT id costs m d).settle = u from hu.out] at h6
  have H6 := Lib.hid h6
  have B6 := Lib.hid (show Below w.heap.size w w6 from B5.out.trans (hb6.mono hs9.out))
  have X6 := Lib.hid (show Bx w6 w.heap.size 29 #[.int .i64 0, .slice none 0 0, .slice none 0 0, .slice none 0 0, .slice none 0 0, .int .i64 0, .int .i64 0] from (hb6.block _ hx9.out).trans X5.out)
  clear hset h6 hb6 H5 B5 X5
  have zz := H6.out.x.lt
  have zx := X6.out.lt
  have o0 := H6.out.c (i := 0) rfl
  have x0 := X6.out.c (i := 0) rfl
  have g0 := X6.out.f 0
  have o1 := H6.out.c (i := 1) rfl
  have x1 := X6.out.c (i := 1) rfl
  have g1 := X6.out.f 1
  have o2 := H6.out.c (i := 2) rfl
  have x2 := X6.out.c (i := 2) rfl
  have g2 := X6.out.f 2
  have o3 := H6.out.c (i := 3) rfl
  have x3 := X6.out.c (i := 3) rfl
  have g3 := X6.out.f 3
  have o4 := H6.out.c (i := 4) rfl
  have x4 := X6.out.c (i := 4) rfl
  have g4 := X6.out.f 4
  have o5 := H6.out.c (i := 5) rfl
  have x5 := X6.out.c (i := 5) rfl
  have g5 := X6.out.f 5
  have o6 := H6.out.c (i := 6) rfl
  have x6 := X6.out.c (i := 6) rfl
  have g6 := X6.out.f 6
  go_wp2_with fail
  refine bodyPost_ret (v := .tuple #[tvO u gC gU gI gS, .int .i64 0]) (by simp [results, Try.results7, go_sem, x0, x1, x2, x3, x4, x5, x6]) rfl ?_
  exact Blks.ret (mk := fun x => .tuple #[x, .int .i64 0]) ((Blks.set7 H6.out.b X6.out).base hs9.out) (set7_bel B6.out hge.out)
set_option maxHeartbeats 16000000 in
theorem o_new_no {id : Int} {costs : List Int} {m d : Int} {AC : Option Addr} {cC : Nat} {w : World} (hok : newOk id costs m d = false) (hr : RowI w AC costs.length cC costs) : Calls Try.prog 7 #[.int .i64 id, .slice AC costs.length cC, .int .i64 m, .int .i64 d] w (RetT w (fun b => Off b AC costs) T0 (fun v => .tuple #[v, .int .i64 2])) := by
  obtain ⟨w0, hw0⟩ : ∃ W, W = w.alloc (.cells #[.int .i64 0, .slice none 0 0, .slice none 0 0, .slice none 0 0, .slice none 0 0, .int .i64 0, .int .i64 0] 29) := ⟨_, rfl⟩
  have b0 : Below w.heap.size w w0 := by rw [hw0]; exact (Below.refl _ _).alloc (Nat.le_refl _) _
  have X := Lib.hid (show Bx w0 w.heap.size 29 #[.int .i64 0, .slice none 0 0, .slice none 0 0, .slice none 0 0, .slice none 0 0, .int .i64 0, .int .i64 0] by rw [hw0]; exact Bx.new _ _ _ rfl)
  have R := Lib.hid (hr.below b0)
  have B0 := b0
  have z0 := X.out.lt
  have hge := Lib.hid (Nat.le_refl w.heap.size)
  obtain ⟨mb, hm⟩ : ∃ b, mostB m = b := ⟨_, rfl⟩
  obtain ⟨db, hd⟩ : ∃ b, okS 0 0 d = b := ⟨_, rfl⟩
  have cM := Lib.hid fun W => most_to hm W
  have cD := Lib.hid fun W => delay_to hd W
  have hself := Lib.hid (show mb = true → db = true → (newSelf id costs).ok = false from fun h1 h2 => new_self hok (by rw [hm, h1]) (by rw [hd, h2]))
  replace hm := Lib.hid hm
  replace hd := Lib.hid hd
  clear b0 hr hok
  go_enter Try.func7, Try.ntmps7
  go_upto_region 1 with fail
  rw [← hw0]
  clear hw0
  by_cases hl9 : (8 : Int) < (costs.length : Int)
  · clear cM cD hself
    have o_X_0 := X.out.c (i := 0) rfl
    have o_X_1 := X.out.c (i := 1) rfl
    have o_X_2 := X.out.c (i := 2) rfl
    have o_X_3 := X.out.c (i := 3) rfl
    have o_X_4 := X.out.c (i := 4) rfl
    have o_X_5 := X.out.c (i := 5) rfl
    have o_X_6 := X.out.c (i := 6) rfl
    have p_X_0 := X.out.f 0
    have p_X_1 := X.out.f 1
    have p_X_2 := X.out.f 2
    have p_X_3 := X.out.f 3
    have p_X_4 := X.out.f 4
    have p_X_5 := X.out.f 5
    have p_X_6 := X.out.f 6
    have hzx := X.out.lt
    have hb9 := Lib.hid B0
    clear B0
    go_wp2_with fail
    refine bodyPost_ret (v := .tuple #[.agg #[.int .i64 0, .slice none 0 0, .slice none 0 0, .slice none 0 0, .slice none 0 0, .int .i64 0, .int .i64 0], .int .i64 2]) (by simp [results, Try.results7, go_sem, o_X_0, o_X_1, o_X_2, o_X_3, o_X_4, o_X_5, o_X_6]) rfl ?_
    exact retN0 (mk := fun x => .tuple #[x, .int .i64 2]) (set7_bel hb9.out hge.out)
  · have hl8 : costs.length ≤ 8 := by omega
    go_wp2_with fail
    go_at_call 25
    (with_reducible refine (cM.out _).mono ?_)
    rintro e w21 ⟨rfl, hb21⟩
    have X_w21 := Lib.hid (X.out.below hb21)
    have R_w21 := Lib.hid (R.out.below hb21)
    have z0_w21 : w.heap.size < w21.heap.size := Nat.lt_of_lt_of_le z0 hb21.size
    have B_w21 := bt B0 hb21
    clear X R z0 B0 hb21
    clear cM
    cases mb with
    | false =>
      clear cD hself
      have o_X_0 := X_w21.out.c (i := 0) rfl
      have o_X_1 := X_w21.out.c (i := 1) rfl
      have o_X_2 := X_w21.out.c (i := 2) rfl
      have o_X_3 := X_w21.out.c (i := 3) rfl
      have o_X_4 := X_w21.out.c (i := 4) rfl
      have o_X_5 := X_w21.out.c (i := 5) rfl
      have o_X_6 := X_w21.out.c (i := 6) rfl
      have p_X_0 := X_w21.out.f 0
      have p_X_1 := X_w21.out.f 1
      have p_X_2 := X_w21.out.f 2
      have p_X_3 := X_w21.out.f 3
      have p_X_4 := X_w21.out.f 4
      have p_X_5 := X_w21.out.f 5
      have p_X_6 := X_w21.out.f 6
      have hzx := X_w21.out.lt
      have hb9 := Lib.hid B_w21
      clear B_w21
      go_wp2_with fail
      refine bodyPost_ret (v := .tuple #[.agg #[.int .i64 0, .slice none 0 0, .slice none 0 0, .slice none 0 0, .slice none 0 0, .int .i64 0, .int .i64 0], .int .i64 2]) (by simp [results, Try.results7, go_sem, o_X_0, o_X_1, o_X_2, o_X_3, o_X_4, o_X_5, o_X_6]) rfl ?_
      exact retN0 (mk := fun x => .tuple #[x, .int .i64 2]) (set7_bel hb9.out hge.out)
    | true =>
      go_wp2_with fail
      go_at_call 26
      (with_reducible refine (cD.out _).mono ?_)
      rintro e w22 ⟨rfl, hb22⟩
      have X_w22 := Lib.hid (X_w21.out.below hb22)
      have R_w22 := Lib.hid (R_w21.out.below hb22)
      have z0_w22 : w.heap.size < w22.heap.size := Nat.lt_of_lt_of_le z0_w21 hb22.size
      have B_w22 := bt B_w21 hb22
      clear X_w21 R_w21 z0_w21 B_w21 hb22
      clear cD hl9
      cases db with
      | false =>
        clear hself
        have o_X_0 := X_w22.out.c (i := 0) rfl
        have o_X_1 := X_w22.out.c (i := 1) rfl
        have o_X_2 := X_w22.out.c (i := 2) rfl
        have o_X_3 := X_w22.out.c (i := 3) rfl
        have o_X_4 := X_w22.out.c (i := 4) rfl
        have o_X_5 := X_w22.out.c (i := 5) rfl
        have o_X_6 := X_w22.out.c (i := 6) rfl
        have p_X_0 := X_w22.out.f 0
        have p_X_1 := X_w22.out.f 1
        have p_X_2 := X_w22.out.f 2
        have p_X_3 := X_w22.out.f 3
        have p_X_4 := X_w22.out.f 4
        have p_X_5 := X_w22.out.f 5
        have p_X_6 := X_w22.out.f 6
        have hzx := X_w22.out.lt
        have hb9 := Lib.hid B_w22
        clear B_w22
        go_wp2_with fail
        refine bodyPost_ret (v := .tuple #[.agg #[.int .i64 0, .slice none 0 0, .slice none 0 0, .slice none 0 0, .slice none 0 0, .int .i64 0, .int .i64 0], .int .i64 2]) (by simp [results, Try.results7, go_sem, o_X_0, o_X_1, o_X_2, o_X_3, o_X_4, o_X_5, o_X_6]) rfl ?_
        exact retN0 (mk := fun x => .tuple #[x, .int .i64 2]) (set7_bel hb9.out hge.out)
      | true =>
        have cR := Lib.hid fun (W : World) (B gC gU gI gS : Nat) (h : Blks W B (rawT id costs m d) gC gU gI gS) => rr_to (hself.out (by trivial) (by trivial)) hl8 h
        clear hself
        have hs9 := Lib.hid (show w.heap.size ≤ w22.heap.size from Nat.le_of_lt z0_w22)
        have hx9 := Lib.hid (show w.heap.size < w22.heap.size from z0_w22)
        have Rr := R_w22
        have Xr := X_w22
        have Br := Lib.hid B_w22
        clear B_w22 R_w22 z0_w22
        go_upto_region 3 with fail
        refine wp_region_ends (by kernel_rfl) (fun ix => match ix with | 0 => 25 | 1 => 26 | 2 => 27 | 3 => 28 | 4 => 29 | 5 => 30 | 6 => 31 | 7 => 32 | 8 => 33 | 9 => 10 | _ => 0) 10 (by kernel_rfl) (fun i v W => match i with | 0 => v = .int .i64 id | 1 => v = .slice AC costs.length cC | 2 => ∃ gC gU gI, v = .agg #[.int .i64 id, .slice (some ⟨gC, 0, none⟩) costs.length costs.length, .slice (some ⟨gU, 0, none⟩) costs.length costs.length, .slice (some ⟨gI, 0, none⟩) costs.length costs.length] ∧ Blk W gC 3 (IntP.cI costs) ∧ Blk W gU 4 (BoolP.cB (costs.map fun _ => true)) ∧ Blk W gI 66 ((costs.map fun _ => N0).map N.cells) ∧ w22.heap.size ≤ gC ∧ w22.heap.size ≤ gU ∧ w22.heap.size ≤ gI | 3 => v = .slice AC costs.length cC | 4 => v = .int .i64 costs.length | 5 => ∃ g, v = .slice (some ⟨g, 0, none⟩) costs.length costs.length ∧ Blk W g 80 ((costs.map fun _ => ((0 : Int), (0 : Int))).map sc) ∧ w22.heap.size ≤ g | 6 => v = .int .i64 m | 7 => v = .int .i64 d | 8 => ∃ gC gU gI gS, v = .agg #[.int .i64 id, .slice (some ⟨gC, 0, none⟩) costs.length costs.length, .slice (some ⟨gU, 0, none⟩) costs.length costs.length, .slice (some ⟨gI, 0, none⟩) costs.length costs.length, .slice (some ⟨gS, 0, none⟩) costs.length costs.length, .int .i64 m, .int .i64 d] ∧ Blks W w22.heap.size (rawT id costs m d) gC gU gI gS | 9 => ∃ b, v = .pointer (some ⟨b, 0, none⟩) ∧ Bx W b 29 #[.int .i64 0, .slice none 0 0, .slice none 0 0, .slice none 0 0, .slice none 0 0, .int .i64 0, .int .i64 0] ∧ w22.heap.size ≤ b | _ => True) (fun i v W W' h hb => by
            match i with
            | 0 => exact h
            | 1 => exact h
            | 2 => exact (by obtain ⟨g1, g2, g3, h1, h2, h3, h4, h5⟩ := h; exact ⟨g1, g2, g3, h1, h2.below hb, h3.below hb, h4.below hb, h5⟩)
            | 3 => exact h
            | 4 => exact h
            | 5 => exact (by obtain ⟨g, h1, h2, h3⟩ := h; exact ⟨g, h1, h2.below hb, h3⟩)
            | 6 => exact h
            | 7 => exact h
            | 8 => exact (by obtain ⟨g1, g2, g3, g4, h1, h2⟩ := h; exact ⟨g1, g2, g3, g4, h1, h2.below hb⟩)
            | 9 => exact (by obtain ⟨b, h1, h2, h3⟩ := h; exact ⟨b, h1, h2.below hb, h3⟩)
            | n + 10 => exact trivial) ?_ ?_
        refine ⟨?_, ?_, ?_, ?_, ?_, ?_, ?_, ?_, ?_, ?_, trivial⟩
        · as_aux_lemma =>
            intro a W2 K hb hdep hk hK
            replace hK : ∀ v w', (v = .int .i64 id) → Below W2.heap.size W2 w' → K (a.put (some 25) v) w' := hK
            have d0 : a.tmps.getD 0 undef = .int .i64 id := hk 0 (by kernel_rfl)
            clear hdep hk hb
            go_simp
            exact hK _ _ rfl (Below.refl _ _)
        · as_aux_lemma =>
            intro a W2 K hb hdep hk hK
            replace hK : ∀ v w', (v = .slice AC costs.length cC) → Below W2.heap.size W2 w' → K (a.put (some 26) v) w' := hK
            have d1 : a.tmps.getD 1 undef = .slice AC costs.length cC := hk 1 (by kernel_rfl)
            clear hdep hk hb
            go_simp
            exact hK _ _ rfl (Below.refl _ _)
        · as_aux_lemma =>
            intro a W2 K hb hdep hk hK
            replace hK : ∀ v w', (∃ gC gU gI, v = .agg #[.int .i64 id, .slice (some ⟨gC, 0, none⟩) costs.length costs.length, .slice (some ⟨gU, 0, none⟩) costs.length costs.length, .slice (some ⟨gI, 0, none⟩) costs.length costs.length] ∧ Blk w' gC 3 (IntP.cI costs) ∧ Blk w' gU 4 (BoolP.cB (costs.map fun _ => true)) ∧ Blk w' gI 66 ((costs.map fun _ => N0).map N.cells) ∧ w22.heap.size ≤ gC ∧ w22.heap.size ≤ gU ∧ w22.heap.size ≤ gI) → Below W2.heap.size W2 w' → K (a.put (some 27) v) w' := hK
            have d25 : a.tmps.getD 25 undef = .int .i64 id := hdep ⟨0, .data⟩ (by simp) rfl
            have d26 : a.tmps.getD 26 undef = .slice AC costs.length cC := hdep ⟨1, .data⟩ (by simp) rfl
            have hcall := Lib.hid (o_silent (id := id) hl8 (Rr.out.below hb))
            have hsz := Lib.hid hb.size
            clear hdep hk hb
            have q25 : a.tmps[25]?.getD undef = .int .i64 id := by simpa [Array.getD_eq_getD_getElem?] using d25
            clear d25
            have q26 : a.tmps[26]?.getD undef = .slice AC costs.length cC := by simpa [Array.getD_eq_getD_getElem?] using d26
            clear d26
            go_simp
            refine hcall.out.mono ?_
            rintro e w9 ⟨g1, g2, g3, rfl, r1, r2, r3, r4, r5, r6, r7⟩
            exact hK _ _ ⟨g1, g2, g3, rfl, r1, r2, r3, Nat.le_trans hsz.out r4, Nat.le_trans hsz.out r5, Nat.le_trans hsz.out r6⟩ r7
        · as_aux_lemma =>
            intro a W2 K hb hdep hk hK
            replace hK : ∀ v w', (v = .slice AC costs.length cC) → Below W2.heap.size W2 w' → K (a.put (some 28) v) w' := hK
            have d1 : a.tmps.getD 1 undef = .slice AC costs.length cC := hk 1 (by kernel_rfl)
            clear hdep hk hb
            go_simp
            exact hK _ _ rfl (Below.refl _ _)
        · as_aux_lemma =>
            intro a W2 K hb hdep hk hK
            replace hK : ∀ v w', (v = .int .i64 costs.length) → Below W2.heap.size W2 w' → K (a.put (some 29) v) w' := hK
            have d28 : a.tmps.getD 28 undef = .slice AC costs.length cC := hdep ⟨3, .data⟩ (by simp) rfl
            clear hdep hk hb
            go_simp
            exact hK _ _ rfl (Below.refl _ _)
        · as_aux_lemma =>
            intro a W2 K hb hdep hk hK
            replace hK : ∀ v w', (∃ g, v = .slice (some ⟨g, 0, none⟩) costs.length costs.length ∧ Blk w' g 80 ((costs.map fun _ => ((0 : Int), (0 : Int))).map sc) ∧ w22.heap.size ≤ g) → Below W2.heap.size W2 w' → K (a.put (some 30) v) w' := hK
            have d29 : a.tmps.getD 29 undef = .int .i64 costs.length := hdep ⟨4, .data⟩ (by simp) rfl
            have hsz := Lib.hid hb.size
            clear hdep hk hb
            have q29 : a.tmps[29]?.getD undef = .int .i64 costs.length := by simpa [Array.getD_eq_getD_getElem?] using d29
            clear d29
            obtain ⟨w9, hm9, hk9, hb9', _⟩ := run_make_blk (P := Try.prog) W2 27 elP zv_state (size := 2) rfl costs.length (by omega)
            rw [show (.agg #[.int .i64 0, .int .i64 0] : Value).cells.toList = sc (0, 0) from rfl, zeros] at hk9
            replace hk9 := Lib.hid hk9
            replace hb9' := Lib.hid hb9'
            go_simp
            exact hK _ _ ⟨_, rfl, hk9.out, hsz.out⟩ hb9'.out
        · as_aux_lemma =>
            intro a W2 K hb hdep hk hK
            replace hK : ∀ v w', (v = .int .i64 m) → Below W2.heap.size W2 w' → K (a.put (some 31) v) w' := hK
            have d2 : a.tmps.getD 2 undef = .int .i64 m := hk 2 (by kernel_rfl)
            clear hdep hk hb
            go_simp
            exact hK _ _ rfl (Below.refl _ _)
        · as_aux_lemma =>
            intro a W2 K hb hdep hk hK
            replace hK : ∀ v w', (v = .int .i64 d) → Below W2.heap.size W2 w' → K (a.put (some 32) v) w' := hK
            have d3 : a.tmps.getD 3 undef = .int .i64 d := hk 3 (by kernel_rfl)
            clear hdep hk hb
            go_simp
            exact hK _ _ rfl (Below.refl _ _)
        · intro a W2 K hb hdep hk hK
          replace hK : ∀ v w', (∃ gC gU gI gS, v = .agg #[.int .i64 id, .slice (some ⟨gC, 0, none⟩) costs.length costs.length, .slice (some ⟨gU, 0, none⟩) costs.length costs.length, .slice (some ⟨gI, 0, none⟩) costs.length costs.length, .slice (some ⟨gS, 0, none⟩) costs.length costs.length, .int .i64 m, .int .i64 d] ∧ Blks w' w22.heap.size (rawT id costs m d) gC gU gI gS) → Below W2.heap.size W2 w' → K (a.put (some 33) v) w' := hK
          have d27 := hdep ⟨2, .data⟩ (by simp) rfl
          have d30 := hdep ⟨5, .data⟩ (by simp) rfl
          have d31 : a.tmps.getD 31 undef = .int .i64 m := hdep ⟨6, .data⟩ (by simp) rfl
          have d32 : a.tmps.getD 32 undef = .int .i64 d := hdep ⟨7, .data⟩ (by simp) rfl
          clear hdep hk hb
          obtain ⟨gC, gU, gI, e27, k1, k2, k3, l1, l2, l3⟩ := d27
          obtain ⟨gS, e30, k4, l4⟩ := d30
          have q31 : a.tmps[31]?.getD undef = .int .i64 m := by simpa [Array.getD_eq_getD_getElem?] using d31
          clear d31
          have q32 : a.tmps[32]?.getD undef = .int .i64 d := by simpa [Array.getD_eq_getD_getElem?] using d32
          clear d32
          have q27 : a.tmps[27]?.getD undef = .agg #[.int .i64 id, .slice (some ⟨gC, 0, none⟩) costs.length costs.length, .slice (some ⟨gU, 0, none⟩) costs.length costs.length, .slice (some ⟨gI, 0, none⟩) costs.length costs.length] := by simpa [Array.getD_eq_getD_getElem?] using e27
          have q30 : a.tmps[30]?.getD undef = .slice (some ⟨gS, 0, none⟩) costs.length costs.length := by simpa [Array.getD_eq_getD_getElem?] using e30
          clear e27 e30
          have hB := Lib.hid (show Blks W2 w22.heap.size (rawT id costs m d) gC gU gI gS from ⟨k1, k2, k3, k4, l1, l2, l3, l4⟩)
          clear k1 k2 k3 k4 l1 l2 l3 l4
          go_simp
          exact hK _ _ ⟨gC, gU, gI, gS, rfl, hB.out⟩ (Below.refl _ _)
        · as_aux_lemma =>
            intro a W2 K hb hdep hk hK
            replace hK : ∀ v w', (∃ b, v = .pointer (some ⟨b, 0, none⟩) ∧ Bx w' b 29 #[.int .i64 0, .slice none 0 0, .slice none 0 0, .slice none 0 0, .slice none 0 0, .int .i64 0, .int .i64 0] ∧ w22.heap.size ≤ b) → Below W2.heap.size W2 w' → K (a.put (some 10) v) w' := hK
            have hsz := Lib.hid hb.size
            clear hdep hk hb
            go_simp
            exact hK _ _ ⟨_, rfl, Bx.new _ _ _ rfl, hsz.out⟩ ((Below.refl _ _).alloc (Nat.le_refl _) _)
        intro a W3 hb3 hsp hk hn hdf
        obtain ⟨gC, gU, gI, gS, h33, bl⟩ := hsp 8 (by decide)
        obtain ⟨bO, h10, bx, lb⟩ := hsp 9 (by decide)
        have s0 : a.tmps.getD 0 undef = .int .i64 id := hk 0 (by kernel_rfl)
        have s1 : a.tmps.getD 1 undef = .slice AC costs.length cC := hk 1 (by kernel_rfl)
        have s2 : a.tmps.getD 2 undef = .int .i64 m := hk 2 (by kernel_rfl)
        have s3 : a.tmps.getD 3 undef = .int .i64 d := hk 3 (by kernel_rfl)
        have s8 : a.tmps.getD 8 undef = .pointer (some ⟨w.heap.size, 0, none⟩) := hk 8 (by kernel_rfl)
        have s9 : a.tmps.getD 9 undef = .int .i64 0 := hk 9 (by kernel_rfl)
        have s25 : a.tmps.getD 25 undef = .int .i64 id := hsp 0 (by decide)
        have s26 : a.tmps.getD 26 undef = .slice AC costs.length cC := hsp 1 (by decide)
        have s28 : a.tmps.getD 28 undef = .slice AC costs.length cC := hsp 3 (by decide)
        have s29 : a.tmps.getD 29 undef = .int .i64 costs.length := hsp 4 (by decide)
        have s31 : a.tmps.getD 31 undef = .int .i64 m := hsp 6 (by decide)
        have s32 : a.tmps.getD 32 undef = .int .i64 d := hsp 7 (by decide)
        have s33 : a.tmps.getD 33 undef = .agg #[.int .i64 id, .slice (some ⟨gC, 0, none⟩) costs.length costs.length, .slice (some ⟨gU, 0, none⟩) costs.length costs.length, .slice (some ⟨gI, 0, none⟩) costs.length costs.length, .slice (some ⟨gS, 0, none⟩) costs.length costs.length, .int .i64 m, .int .i64 d] := h33
        have s10 : a.tmps.getD 10 undef = .pointer (some ⟨bO, 0, none⟩) := h10
        clear hk hsp h33 h10
        obtain ⟨tm, df⟩ := a
        have e := arr_out tm 41 hn
        replace e : tm = #[tm.getD 0 undef, tm.getD 1 undef, tm.getD 2 undef, tm.getD 3 undef, tm.getD 4 undef, tm.getD 5 undef, tm.getD 6 undef, tm.getD 7 undef, tm.getD 8 undef, tm.getD 9 undef, tm.getD 10 undef, tm.getD 11 undef, tm.getD 12 undef, tm.getD 13 undef, tm.getD 14 undef, tm.getD 15 undef, tm.getD 16 undef, tm.getD 17 undef, tm.getD 18 undef, tm.getD 19 undef, tm.getD 20 undef, tm.getD 21 undef, tm.getD 22 undef, tm.getD 23 undef, tm.getD 24 undef, tm.getD 25 undef, tm.getD 26 undef, tm.getD 27 undef, tm.getD 28 undef, tm.getD 29 undef, tm.getD 30 undef, tm.getD 31 undef, tm.getD 32 undef, tm.getD 33 undef, tm.getD 34 undef, tm.getD 35 undef, tm.getD 36 undef, tm.getD 37 undef, tm.getD 38 undef, tm.getD 39 undef, tm.getD 40 undef] := e
        simp only at s0 s1 s2 s3 s8 s9 s25 s26 s28 s29 s31 s32 s33 s10 hdf
        rw [s0, s1, s2, s3, s8, s9, s25, s26, s28, s29, s31, s32, s33, s10] at e
        subst hdf
        clear s0 s1 s2 s3 s8 s9 s25 s26 s28 s29 s31 s32 s33 s10 hn
        generalize tm.getD 4 undef = u4 at e
        generalize tm.getD 5 undef = u5 at e
        generalize tm.getD 6 undef = u6 at e
        generalize tm.getD 7 undef = u7 at e
        generalize tm.getD 11 undef = u11 at e
        generalize tm.getD 12 undef = u12 at e
        generalize tm.getD 13 undef = u13 at e
        generalize tm.getD 14 undef = u14 at e
        generalize tm.getD 15 undef = u15 at e
        generalize tm.getD 16 undef = u16 at e
        generalize tm.getD 17 undef = u17 at e
        generalize tm.getD 18 undef = u18 at e
        generalize tm.getD 19 undef = u19 at e
        generalize tm.getD 20 undef = u20 at e
        generalize tm.getD 21 undef = u21 at e
        generalize tm.getD 22 undef = u22 at e
        generalize tm.getD 23 undef = u23 at e
        generalize tm.getD 24 undef = u24 at e
        generalize tm.getD 27 undef = u27 at e
        generalize tm.getD 30 undef = u30 at e
        generalize tm.getD 34 undef = u34 at e
        generalize tm.getD 35 undef = u35 at e
        generalize tm.getD 36 undef = u36 at e
        generalize tm.getD 37 undef = u37 at e
        generalize tm.getD 38 undef = u38 at e
        generalize tm.getD 39 undef = u39 at e
        generalize tm.getD 40 undef = u40 at e
        subst e
        simp only [List.drop_succ_cons, List.drop_zero]
        have zb := bx.lt
        have y0 := bx.c (i := 0) rfl
        have f0 := bx.f 0
        have y1 := bx.c (i := 1) rfl
        have f1 := bx.f 1
        have y2 := bx.c (i := 2) rfl
        have f2 := bx.f 2
        have y3 := bx.c (i := 3) rfl
        have f3 := bx.f 3
        have y4 := bx.c (i := 4) rfl
        have f4 := bx.f 4
        have y5 := bx.c (i := 5) rfl
        have f5 := bx.f 5
        have y6 := bx.c (i := 6) rfl
        have f6 := bx.f 6
        obtain ⟨w4, hw4⟩ : ∃ W, W = set7 W3 bO (.int .i64 id) (.slice (some ⟨gC, 0, none⟩) costs.length costs.length) (.slice (some ⟨gU, 0, none⟩) costs.length costs.length) (.slice (some ⟨gI, 0, none⟩) costs.length costs.length) (.slice (some ⟨gS, 0, none⟩) costs.length costs.length) (.int .i64 m) (.int .i64 d) := ⟨_, rfl⟩
        have H4 := Lib.hid (show OwnT w4 w22.heap.size bO (rawT id costs m d) gC gU gI gS from ⟨by rw [hw4, raw_tc]; exact set7_bx bx, by rw [hw4]; exact bl.set7 bx, lb⟩)
        have B4 := Lib.hid (show Below w.heap.size w w4 by rw [hw4]; exact set7_bel (bt Br.out hb3) (Nat.le_trans hs9.out lb))
        have X4 := Lib.hid (show Bx w4 w.heap.size 29 #[.int .i64 0, .slice none 0 0, .slice none 0 0, .slice none 0 0, .slice none 0 0, .int .i64 0, .int .i64 0] by rw [hw4]; exact set7_oth (Xr.out.below hb3) (by have := hx9.out; omega))
        have S4 := Lib.hid (show w22.heap.size ≤ w4.heap.size by rw [hw4]; simp [set7, World.setCell]; exact hb3.size)
        unfold set7 at hw4
        replace bl := Lib.hid bl
        replace lb := Lib.hid lb
        replace bx := Lib.hid bx
        clear hb3
        go_upto_region 4 with fail
        rw [← hw4]
        clear hw4 zb y0 f0 y1 f1 y2 f2 y3 f3 y4 f4 y5 f5 y6 f6
        have zz := H4.out.x.lt
        have e4 : Bx w4 bO 29 #[.int .i64 id, .slice (some ⟨gC, 0, none⟩) costs.length costs.length, .slice (some ⟨gU, 0, none⟩) costs.length costs.length, .slice (some ⟨gI, 0, none⟩) costs.length costs.length, .slice (some ⟨gS, 0, none⟩) costs.length costs.length, .int .i64 m, .int .i64 d] := by have := H4.out.x; rwa [raw_tc] at this
        have o0 := e4.c (i := 0) rfl
        have o1 := e4.c (i := 1) rfl
        have o2 := e4.c (i := 2) rfl
        have o3 := e4.c (i := 3) rfl
        have o4 := e4.c (i := 4) rfl
        have o5 := e4.c (i := 5) rfl
        have o6 := e4.c (i := 6) rfl
        go_wp2_with fail
        clear zz e4 o0 o1 o2 o3 o4 o5 o6
        go_at_call 28
        (with_reducible refine (cR.out _ _ _ _ _ _ H4.out.b).mono ?_)
        rintro e w5 ⟨rfl, hb5⟩
        have B5 := Lib.hid (bt B4.out hb5)
        have X5 := Lib.hid (X4.out.below hb5)
        have B5x := B5.out
        clear hb5 H4 S4 B4 X4
        have o_X_0 := X5.out.c (i := 0) rfl
        have o_X_1 := X5.out.c (i := 1) rfl
        have o_X_2 := X5.out.c (i := 2) rfl
        have o_X_3 := X5.out.c (i := 3) rfl
        have o_X_4 := X5.out.c (i := 4) rfl
        have o_X_5 := X5.out.c (i := 5) rfl
        have o_X_6 := X5.out.c (i := 6) rfl
        have p_X_0 := X5.out.f 0
        have p_X_1 := X5.out.f 1
        have p_X_2 := X5.out.f 2
        have p_X_3 := X5.out.f 3
        have p_X_4 := X5.out.f 4
        have p_X_5 := X5.out.f 5
        have p_X_6 := X5.out.f 6
        have hzx := X5.out.lt
        have hb9 := Lib.hid B5x
        clear B5x
        go_wp2_with fail
        refine bodyPost_ret (v := .tuple #[.agg #[.int .i64 0, .slice none 0 0, .slice none 0 0, .slice none 0 0, .slice none 0 0, .int .i64 0, .int .i64 0], .int .i64 2]) (by simp [results, Try.results7, go_sem, o_X_0, o_X_1, o_X_2, o_X_3, o_X_4, o_X_5, o_X_6]) rfl ?_
        exact retN0 (mk := fun x => .tuple #[x, .int .i64 2]) (set7_bel hb9.out hge.out)
end Go.Proofs.Ytidoaccidmmalaa.StpP

/-
  The contracts of stp's own functions.
-/
namespace Go.Proofs.Ytidoaccidmmalaa.StpP
open Go.RowKit Go.Sort Go.Proofs.Ytidoaccidmmalaa.SliceP Go.Proofs.Ytidoaccidmmalaa.BoxP Go.Proofs.Ytidoaccidmmalaa.VecP Go.Proofs.Ytidoaccidmmalaa.RoleP
set_option linter.unusedVariables false
set_option maxRecDepth 100000
theorem chk_bad1 {t : T} {p : Int} (h : t.ok = false) : chkI t p = 1 := by unfold chkI; rw [h]; rfl
theorem chk_bad3 {t : T} {p : Int} (h : t.ok = true) (hp : p < 0 ∨ (t.states.length : Int) ≤ p) : chkI t p = 3 := by unfold chkI; rw [if_pos h, if_pos hp]
theorem stp_c : StpC where
  right a := o_rightT a.l a.r
  new_ok h _ hr := o_new_ok h hr
  new_no h _ hr := o_new_no h hr
  hear_ok h a hp hc := o_hear_ok h hp hc a.l a.r
  hear_no h a := o_hear_bad (chk_bad1 h) (by decide) a.l a.r
  hear_range h a hp := o_hear_bad (chk_bad3 h hp) (by decide) a.l a.r
  hear_arg h a hp hc := o_hear_arg h hp hc a.l a.r
  tick_ok h a := o_tick_ok h a.l a.r
  tick_no h a := o_tick_no h a.l a.r
  link_ok h a hp := o_link_ok h hp a.l a.r
  link_no h a := o_link_bad (chk_bad1 h) (by decide) a.l a.r
  link_range h a hp := o_link_bad (chk_bad3 h hp) (by decide) a.l a.r
  fwd_ok h a := o_fwd_ok h a.l a.r
  fwd_no h a := o_fwd_no h a.l a.r
end Go.Proofs.Ytidoaccidmmalaa.StpP
