/-
  Contract of flood.Copies, where it answers.
-/
import Derived.Test.YtgcmklliafcffaaFloodP
import Derived.BigRegion
namespace Go.Proofs.Ytgcmklliafcffaa.LanP
open Go.RowKit Go.Sort Go.Proofs.Ytgcmklliafcffaa.SliceP Go.Proofs.Ytgcmklliafcffaa.BoxP
open Go.Proofs.Ytgcmklliafcffaa.IntP (RowI SlI OwnI)
open Go.Proofs.Ytgcmklliafcffaa.BoolP (RowB SlB OwnB)
open Go.Proofs.Ytgcmklliafcffaa.MacP (arr_out Wrote wp_region_ends outM)
set_option linter.unusedVariables false
set_option maxRecDepth 100000
def cpB (l : L) (f : Int) (b : Nat) : Int := if (ups (pl l b)).any (fun x => l.dst f x != -1) = true then ((ups (pl l b)).length : Int) - 1 else 0
def cpTo (l : L) (f : Int) (k : Nat) : Int := ((List.range k).map (cpB l f)).sum
def L.copies (l : L) (f : Int) : Int := cpTo l f l.plans.length
theorem cpTo_succ (l : L) (f : Int) (k : Nat) : cpTo l f (k + 1) = cpTo l f k + cpB l f k := by unfold cpTo; rw [List.range_succ, List.map_append, List.sum_append]; simp
theorem cpB_le {l : L} (hs : Small l) (f : Int) {b : Nat} (hb : b < l.plans.length) : 0 ≤ cpB l f b ∧ cpB l f b ≤ 10 := by
  unfold cpB
  have h1 := ups_len (pl l b)
  have h2 := hs.ports _ (pl_mem hb)
  split
  · rename_i h
    obtain ⟨x, hx, _⟩ := List.any_eq_true.1 h
    have := List.length_pos_of_mem hx
    omega
  · omega
theorem cpTo_le {l : L} (hs : Small l) (f : Int) : ∀ k, k ≤ l.plans.length → 0 ≤ cpTo l f k ∧ cpTo l f k ≤ 10 * k
  | 0, _ => by unfold cpTo; simp
  | k + 1, h => by
    have ih := cpTo_le hs f k (by omega)
    have := cpB_le hs f (b := k) (by omega)
    rw [cpTo_succ]
    omega
set_option maxHeartbeats 1000000 in
theorem cp_asks {l : L} (hf : l.fit) (h8 : l.n ≤ 8) {f : Int} {g : Nat} {S : Option Addr} {c : Nat} {w : World} (hb0 : Bx w g 43 #[.slice S (stpR l f).length c]) (hrow : Row ic 1 w S (stpR l f).length c (stpR l f)) : Asks 57 #[.pointer (some ⟨g, 0, none⟩)] (fun x => 0 ≤ x ∧ x < l.segs) (fun x => l.dst f x != -1) w := by
  refine ⟨enters_of Try.func57 (by kernel_rfl) rfl, fun x W hx hb => ?_⟩
  obtain ⟨k, rfl⟩ := nat_of hx.1 hx.2
  have hat := stp_at hf (f := f) hx.2
  have hn : (l.n : Int) = l.segs := by have := hf.1; unfold L.n; omega
  obtain ⟨v, hv⟩ : ∃ v, l.dst f k = v := ⟨_, rfl⟩
  rw [hv] at hat
  show Calls Try.prog 57 #[.int .i64 k, .pointer (some ⟨g, 0, none⟩)] W fun e W' => e = .returned (.bool (l.dst f k != -1)) ∧ Below W.heap.size W W'
  rw [hv]
  obtain ⟨R, hR⟩ : ∃ R, stpR l f = R := ⟨_, rfl⟩
  have hl := stp_len l f
  rw [hR] at hb0 hrow hat hl
  obtain ⟨bS, oS, hAS, hbS, r0⟩ := Row.iat (hrow.below hb) hat
  have hcp := hrow.cap
  have hmx := hrow.mx
  have hR8 : R.length ≤ 8 := by omega
  have hkR : (k : Int) < (R.length : Int) := by omega
  have hkR2 : k < R.length := by omega
  subst hAS
  have y0 := (hb0.below hb).c (i := 0) rfl
  have yz := (hb0.below hb).lt
  replace hv := Lib.hid hv
  replace hR := Lib.hid hR
  replace hl := Lib.hid hl
  replace hn := Lib.hid hn
  clear hb0 hrow hb hat hx
  go_enter Try.func57, Try.ntmps57
  go_wp2_with fail
  go_ret
  exact ⟨rfl, Below.refl _ _⟩
set_option maxHeartbeats 8000000 in
theorem o_copies_ok {l : L} {O : List (List Bool)} {A : Option Addr} {c : Nat} {B : Option Addr} {d : Nat} {C : Option Addr} {e : Nat} {w : World} (hr : LanR w l A c B d) (hs : Small l) (hR : RowL bc w C O.length e O) (hO : O.length ≤ 1000) (hO2 : ∀ r ∈ O, r.length ≤ 1000) (s : Int) (he : whyO l O [s] = 0) :
    Calls Try.prog 25 #[lv l A c B d, .slice C O.length e, .int .i64 s] w fun en w' => en = .returned (.tuple #[.int .i64 ((l.op O).copies s), .int .i64 0]) ∧ Below w.heap.size w w' := by
  obtain ⟨hok, hrw, hin⟩ := whyO_zero he
  obtain ⟨w0, hw0, X0, R0, B0⟩ := new3 w hr
  obtain ⟨w1, hw1⟩ : ∃ W, W = w0.alloc (.cells #[.int .i64 s] 3) := ⟨_, rfl⟩
  have hz0 : w0.heap.size = w.heap.size + 1 := by rw [hw0]; simp
  obtain ⟨n1, hn1⟩ : ∃ n, n = w.heap.size + 1 := ⟨_, rfl⟩
  have b1 : Below w0.heap.size w0 w1 := by rw [hw1]; exact (Below.refl _ _).alloc (Nat.le_refl _) _
  have B1 := Lib.hid (bt B0 b1)
  have X1 := Lib.hid (X0.below b1)
  have S1 : Row ic 1 w1 (some ⟨n1, 0, none⟩) 1 1 [s] := by rw [hw1, hn1, ← hz0]; exact row_one w0 [s] (by simp)
  have hck := Lib.hid (show Calls Try.prog 51 #[lv l A c B d, .slice C O.length e, .slice (some ⟨n1, 0, none⟩) 1 1] w1 _ from o_check17 (R0.below b1) hs ((hR.below B0).below b1) hO hO2 (ss := [s]) S1 (by simp) he)
  have hop := Lib.hid (fun W (hW : Below w1.heap.size w1 W) => o_opened ((R0.below b1).below hW) hs (((hR.below B0).below b1).below hW) hrw)
  have hpo := op_ok O hok
  have hps := op_small O hs
  have hpf := ok_fit hpo
  have hp0 := (hin s (by simp)).1
  have hp1 : s < (l.op O).segs := (hin s (by simp)).2
  have hst := Lib.hid (fun A' c' W (hW : LanR W (l.op O) A' c' none 0) => o_stepsfrom hW hps hpo hp0 hp1)
  have hask := Lib.hid (fun g S c W hb hr => cp_asks (l := l.op O) hpf (ok_small8 hpo) (f := s) (g := g) (S := S) (c := c) (w := W) hb hr)
  have hfit := Lib.hid (fun b (hb : b < (l.op O).plans.length) x (hx : x ∈ ups (pl (l.op O) b)) => hpf.2 _ (pl_mem hb) x hx)
  have hcl := Lib.hid (fun k hk => cpTo_le (l := l.op O) hps s k hk)
  have hpn := hps.plans
  have hpm := Lib.hid hps.ports
  obtain ⟨m, hm⟩ : ∃ m, l.op O = m := ⟨_, rfl⟩
  rw [hm] at hop hst hask hfit hcl hpn hpm ⊢
  obtain ⟨cc, hcc⟩ : ∃ cc, m.copies s = cc := ⟨_, rfl⟩
  rw [hcc]
  obtain ⟨R, hRr⟩ : ∃ R, stpR m s = R := ⟨_, rfl⟩
  rw [hRr] at hst hask
  replace hz0 := Lib.hid hz0
  replace hm := Lib.hid hm
  replace hcc := Lib.hid hcc
  replace hRr := Lib.hid hRr
  clear hr hs hR R0 X0 B0 b1 S1 hO hO2 he hok hrw hin hpo hps hpf hp0 hp1
  go_enter Try.func25, Try.ntmps25
  go_wp2_with fail
  rw [← hn1, ← hw0, ← hw1]
  clear hw0 hw1 hn1
  go_at_call 51
  (with_reducible refine hck.out.mono ?_)
  rintro e1 w2 ⟨rfl, hb2⟩
  have X2 := Lib.hid (X1.out.below hb2)
  have B2 := Lib.hid (bt B1.out hb2)
  have hop2 := Lib.hid (hop.out w2 hb2)
  clear hb2 hck X1 B1 hop
  have x0 := X2.out.c (i := 0) rfl
  have x1 := X2.out.c (i := 1) rfl
  have x2 := X2.out.c (i := 2) rfl
  have zz := X2.out.lt
  go_wp2_with fail
  go_at_call 53
  (with_reducible refine hop2.out.mono ?_)
  rintro e1 w3 ⟨A3, c3, rfl, hL3, hb3⟩
  obtain ⟨w4, hw4⟩ : ∃ W, W = w3.alloc (.cells #[.int .i64 m.segs, .slice A3 m.plans.length c3, .slice none m.hosts.length 0] 25) := ⟨_, rfl⟩
  obtain ⟨bl, hbl⟩ : ∃ b, b = w3.heap.size := ⟨_, rfl⟩
  have b4 : Below w3.heap.size w3 w4 := by rw [hw4]; exact (Below.refl _ _).alloc (Nat.le_refl _) _
  have L4 := Lib.hid ((hL3 _ (Stay.refl _ _)).below b4)
  have Y4 := Lib.hid (show Bx w4 bl 25 #[.int .i64 m.segs, .slice A3 m.plans.length c3, .slice none m.hosts.length 0] by rw [hw4]; exact Bx.new _ _ _ hbl.symm)
  have B4 := Lib.hid (bt (bt B2.out hb3) b4)
  have hs4 := Lib.hid (hst.out A3 c3 w4 L4.out)
  clear hL3 hb3 b4 x0 x1 x2 zz hop2 hst X2 B2
  go_upto_region 5 with fail
  rw [← hw4, ← hbl]
  clear hw4 hbl
  have y0 := Y4.out.c (i := 0) rfl
  have y1 := Y4.out.c (i := 1) rfl
  have y2 := Y4.out.c (i := 2) rfl
  have yz := Y4.out.lt
  go_wp2_with fail
  go_at_call 56
  (with_reducible refine hs4.out.mono ?_)
  rintro e1 w5 ⟨S5, c5, rfl, o5, hb5⟩
  obtain ⟨w6, hw6⟩ : ∃ W, W = w5.alloc (.cells #[.slice S5 R.length c5] 43) := ⟨_, rfl⟩
  obtain ⟨bs, hbs⟩ : ∃ b, b = w5.heap.size := ⟨_, rfl⟩
  have b6 : Below w5.heap.size w5 w6 := by rw [hw6]; exact (Below.refl _ _).alloc (Nat.le_refl _) _
  have P6 := Lib.hid ((L4.out.below hb5).below b6).plans
  have Y6 := Lib.hid ((Y4.out.below hb5).below b6)
  have B6 := Lib.hid (bt (bt B4.out hb5) b6)
  have A6 := Lib.hid (fun W (hW : Below w6.heap.size w6 W) => hask.out bs S5 c5 W ((show Bx w6 bs 43 #[.slice S5 R.length c5] by rw [hw6]; exact Bx.new _ _ _ hbs.symm).below hW) ((Row.below (Row.own o5 (by decide)) b6).below hW))
  clear o5 hb5 b6 y0 y1 y2 yz hs4 L4 Y4 B4 hask
  go_upto_region 6 with fail
  rw [← hw6, ← hbs]
  clear hw6 hbs
  have y1 := Y6.out.c (i := 1) rfl
  have yz := Y6.out.lt
  go_wp2_with fail
  clear y1 yz
  go_loopw [12, 14, 15, 34] (fun n p u i wr => ∃ (k : Nat) (v : Int), k ≤ m.plans.length ∧ i = .int .i64 k ∧ n = .int .i64 v ∧ v = cpTo m s k ∧ Below w6.heap.size w6 wr) (fun _ _ _ i _ => m.plans.length - (intOf i).toNat)
  case atStart => exact ⟨0, 0, by omega, rfl, rfl, by unfold cpTo; simp, Below.refl _ _⟩
  case round =>
    obtain ⟨k, v, hk, rfl, rfl, hv, hb⟩ := hrel
    obtain ⟨wo, hwo⟩ : ∃ W, W = wr := ⟨_, rfl⟩
    subst hwo
    by_cases hkn : k < m.plans.length
    · have hkl : (k : Int) < (m.plans.length : Int) := by omega
      obtain ⟨x, hx⟩ : ∃ x, m.plans[k]? = some x := ⟨_, List.getElem?_eq_getElem hkn⟩
      obtain ⟨bS8, oS8, A8, c8, hAS8, hbS8, q8_0, q8_1, hrow8⟩ := RowP.at_ (P6.out.below hb) hx
      subst hAS8
      have hxp : pl m k = x := by have := plan_get hkn; rw [hx] at this; exact (Option.some.inj this).symm
      have hxl := hpm.out x (List.mem_of_getElem? hx)
      have hul := ups_len x
      have hsu := cpTo_succ m s k
      have hcb : cpB m s k = if (ups x).any (fun x => m.dst s x != -1) = true then ((ups x).length : Int) - 1 else 0 := by unfold cpB; rw [hxp]
      rw [← hv, hcb] at hsu
      have hf9 := Lib.hid (fun y (hy : y ∈ ups x) => hfit.out k hkn y (by rw [hxp]; exact hy))
      have hbd := hcl.out k hk
      have hbd2 := hcl.out (k + 1) hkn
      rw [← hv] at hbd
      obtain ⟨w8, hw8⟩ : ∃ W, W = wo.alloc (.cells #[.int .i64 x.id, .slice A8 x.ports.length c8] 60) := ⟨_, rfl⟩
      obtain ⟨b7, hb7⟩ : ∃ b, b = wo.heap.size := ⟨_, rfl⟩
      have bb8 : Below wo.heap.size wo w8 := by rw [hw8]; exact (Below.refl _ _).alloc (Nat.le_refl _) _
      have X8 := Lib.hid (show Bx w8 b7 60 #[.int .i64 x.id, .slice A8 x.ports.length c8] by rw [hw8]; exact Bx.new _ _ _ hb7.symm)
      have hsg := Lib.hid (o_fsegs (hrow8.below bb8) (by omega))
      have b8 := Lib.hid (bt hb bb8)
      obtain ⟨U, hU⟩ : ∃ U, ups x = U := ⟨_, rfl⟩
      rw [hU] at hul hsu hf9 hsg
      replace hU := Lib.hid hU
      replace hx := Lib.hid hx
      replace hxp := Lib.hid hxp
      replace hv := Lib.hid hv
      replace hcb := Lib.hid hcb
      clear hb bb8 hrow8
      have hU8 : U.length ≤ 10 := by omega
      go_upto_region 11 with fail
      rw [← hw8, ← hb7]
      clear hw8 hb7 q8_0 q8_1 hbS8
      have o0 := X8.out.c (i := 0) rfl
      have o1 := X8.out.c (i := 1) rfl
      have zz := X8.out.lt
      go_wp2_with fail
      go_at_call 58
      (with_reducible refine hsg.out.mono ?_)
      rintro e1 w9 ⟨A9, c9, rfl, o9, hb9⟩
      have b9 := Lib.hid (bt b8.out hb9)
      have R9 := Lib.hid (Row.own o9 (by decide))
      have hmx9 := R9.out.mx
      clear o9 hb9 o0 o1 zz hsg X8 b8
      cases ha : U.any (fun x => m.dst s x != -1)
      all_goals
        have hh := Lib.hid (o_has_f (by omega) R9.out (A6.out w9 b9.out) hf9.out ha)
        rw [ha] at hsu
        replace hsu := Lib.hid hsu
        replace ha := Lib.hid ha
        go_wp2_with fail
        go_at_call 59
        (with_reducible refine hh.out.mono ?_)
        rintro e1 w10 ⟨rfl, hb10⟩
        have b10 := Lib.hid (bt b9.out hb10)
        clear hb10 hh
      · have hs2 := Lib.hid (show v = cpTo m s (k + 1) by have h := hsu.out; (first | rw [if_neg (by simp)] at h | rw [if_neg not_false] at h); omega)
        clear hsu
        go_wp2_with fail
        go_roundw
        case rel => exact ⟨k + 1, v, by omega, by go_num, rfl, hs2.out, b10.out⟩
        case measure => simp [intOf]; omega
      · have hsu := hsu.out
        first | rw [if_pos rfl] at hsu | rw [if_pos trivial] at hsu
        have hs2 := Lib.hid (show v + ((U.length : Int) - 1) = cpTo m s (k + 1) by rw [hsu])
        have hw1 : wrap64 ((U.length : Int) - 1) = (U.length : Int) - 1 := IntWalk.wrap64_in _ (by omega)
        have hw2 : wrap64 (v + ((U.length : Int) - 1)) = v + ((U.length : Int) - 1) := IntWalk.wrap64_in _ (by omega)
        clear hsu
        go_wp2_with fail
        go_roundw
        case rel => exact ⟨k + 1, v + ((U.length : Int) - 1), by omega, by go_num, rfl, hs2.out, b10.out⟩
        case measure => simp [intOf]; omega
    · obtain rfl : k = m.plans.length := by omega
      have hvv : v = cc := by rw [hv, ← hcc.out]; rfl
      subst hvv
      replace hv := Lib.hid hv
      have B9 := Lib.hid (bt B6.out hb)
      clear hb
      go_wp2_with fail
      go_ret2
      exact ⟨rfl, B9.out⟩
end Go.Proofs.Ytgcmklliafcffaa.LanP
