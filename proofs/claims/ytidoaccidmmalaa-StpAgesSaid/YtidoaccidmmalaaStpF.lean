/-
  Contract of footwayref12: Hear.
-/
import Derived.Test.YtidoaccidmmalaaStpB
import Derived.Test.YtidoaccidmmalaaStpA
namespace Go.Proofs.Ytidoaccidmmalaa.StpP
open Go.Proofs.Ytidoaccidmmalaa.MacP (arr_out Wrote wp_region_ends outM)
open Go.RowKit Go.Sort Go.Proofs.Ytidoaccidmmalaa.SliceP Go.Proofs.Ytidoaccidmmalaa.BoxP Go.Proofs.Ytidoaccidmmalaa.VecP Go.Proofs.Ytidoaccidmmalaa.RoleP
open Go.Proofs.Ytidoaccidmmalaa.IntP (RowI SlI OwnI)
open Go.Proofs.Ytidoaccidmmalaa.BoolP (RowB SlB OwnB)
open Go.Proofs.Ytidoaccidmmalaa.PortP (okS roleS tickS sv)
set_option linter.unusedVariables false
set_option maxRecDepth 100000
theorem know_to {t : T} {AC : Option Addr} {cC : Nat} {AU : Option Addr} {cU : Nat} {AI : Option Addr} {cI : Nat} {AS : Option Addr} {cS : Nat} {w : World} {p : Nat} {v : V} {a : Int} (hlen : t.self.infos.length ≤ 8) (hR : TreeR w t AC cC AU cU AI cI AS cS) : Calls Try.prog 48 #[tv t AC cC AU cU AI cI AS cS, .int .i64 p, .agg #[.bool true, .int .i64 v.r, .int .i64 v.c, .int .i64 v.b, .int .i64 v.p, .int .i64 a]] w (RetT w (fun b => OffT b t AC AU AI AS) (t.know p ⟨true, v, a⟩) (fun v => v)) := r_know (x := ⟨true, v, a⟩) hlen hR
theorem settle_to {t : T} {AC : Option Addr} {cC : Nat} {AU : Option Addr} {cU : Nat} {AI : Option Addr} {cI : Nat} {AS : Option Addr} {cS : Nat} {w : World} (hp : Pre t) (hR : TreeR w t AC cC AU cU AI cI AS cS) : Calls Try.prog 44 #[tv t AC cC AU cU AI cI AS cS] w (RetT w (fun b => OffT b t AC AU AI AS) t.settle (fun v => v)) := r_settle hp.self hp.len hR
set_option maxHeartbeats 16000000 in
theorem r_hear {t : T} {AC : Option Addr} {cC : Nat} {AU : Option Addr} {cU : Nat} {AI : Option Addr} {cI : Nat} {AS : Option Addr} {cS : Nat} {w : World} {p : Nat} {v : V} {a : Int} (hok : t.ok = true) (hp : p < t.states.length) (hv : v.ok = true) (h0 : 0 ≤ a) (h1 : a ≤ 255) (hR : TreeR w t AC cC AU cU AI cI AS cS) :
    Calls Try.prog 15 #[tv t AC cC AU cU AI cI AS cS, .int .i64 p, cg v a] w (RetT w (fun b => OffT b t AC AU AI AS) (t.hear p v a) (fun x => .tuple #[x, .bool (t.hears p v a)])) := by
  obtain ⟨k1, k2, k3, k4⟩ := ok_headT hok
  have e1 := (head_iff.1 (ok_head k1)).2.2
  have e2 := (head_iff.1 (ok_head k1)).2.1.2
  have hpi : p < t.self.infos.length := by omega
  have hpu : p < t.self.ups.length := by omega
  have hpi2 : (p : Int) < (t.self.infos.length : Int) := by omega
  have hpu2 : (p : Int) < (t.self.ups.length : Int) := by omega
  have hli : t.self.infos.length ≤ 8 := by omega
  have hlu : t.self.ups.length ≤ 8 := by omega
  have hpre := Lib.hid (fun (hu : t.self.up p = true) (ha : a < t.mx) => know_pre (x := ⟨true, v, a⟩) hok hp (by rw [hu]; exact n_ok_mk hv h0 h1) ha)
  clear e1 e2 k1 k2 k3 k4 hok hv hp
  obtain ⟨w0, hw0⟩ : ∃ W, W = ((w.alloc (.cells #[.int .i64 t.self.id, .slice AC t.self.costs.length cC, .slice AU t.self.ups.length cU, .slice AI t.self.infos.length cI, .slice AS t.states.length cS, .int .i64 t.mx, .int .i64 t.dl] 29)).alloc (.cells #[.int .i64 v.r, .int .i64 v.c, .int .i64 v.b, .int .i64 v.p, .int .i64 a] 33)).alloc (.cells #[.int .i64 0, .slice none 0 0, .slice none 0 0, .slice none 0 0, .slice none 0 0, .int .i64 0, .int .i64 0] 29) := ⟨_, rfl⟩
  have bI : Below (w.alloc (.cells #[.int .i64 t.self.id, .slice AC t.self.costs.length cC, .slice AU t.self.ups.length cU, .slice AI t.self.infos.length cI, .slice AS t.states.length cS, .int .i64 t.mx, .int .i64 t.dl] 29)).heap.size (w.alloc (.cells #[.int .i64 t.self.id, .slice AC t.self.costs.length cC, .slice AU t.self.ups.length cU, .slice AI t.self.infos.length cI, .slice AS t.states.length cS, .int .i64 t.mx, .int .i64 t.dl] 29)) w0 := by rw [hw0]; exact ((Below.refl _ _).alloc (Nat.le_refl _) _).alloc (by simp) _
  have I := Lib.hid (show InT w w0 t AC cC AU cU AI cI AS cS from (InT.new hR).below bI)
  have C := Lib.hid (show Bx w0 (w.heap.size + 1) 33 #[.int .i64 v.r, .int .i64 v.c, .int .i64 v.b, .int .i64 v.p, .int .i64 a] by rw [hw0]; exact (Bx.new _ _ _ (by simp)).alloc _)
  have X := Lib.hid (show Bx w0 (w.heap.size + 2) 29 #[.int .i64 0, .slice none 0 0, .slice none 0 0, .slice none 0 0, .slice none 0 0, .int .i64 0, .int .i64 0] by rw [hw0]; exact Bx.new _ _ _ (by simp))
  have n0 := Lib.hid (show w.heap.size + 3 = w0.heap.size by rw [hw0]; simp)
  have hR0 := Lib.hid hR
  clear bI hR
  obtain ⟨bI, oI, rfl, hbI, q0, q1, q2, q3, q4, q5⟩ := SlN.at_ I.out.r.self.infos.sl (info_at (s := t.self) (p := p) hpi)
  obtain ⟨hh, hhh⟩ : ∃ b, t.hears p v a = b := ⟨_, rfl⟩
  rw [hhh]
  unfold T.hear
  rw [hhh]
  unfold T.hears at hhh
  obtain ⟨y, hy⟩ : ∃ y, t.self.info p = y := ⟨_, rfl⟩
  rw [hy] at q0 q1 q2 q3 q4 q5 hhh
  obtain ⟨up, hup⟩ : ∃ u, t.self.up p = u := ⟨_, rfl⟩
  rw [hup] at hhh
  replace hy := Lib.hid hy
  have z0 := I.out.x.lt
  have B0 := I.out.b
  go_enter Try.func15, Try.ntmps15
  go_upto_region 1 with fail
  rw [← hw0]
  clear hw0
  have o_I_0 := I.out.c (i := 0) rfl
  have o_I_1 := I.out.c (i := 1) rfl
  have o_I_2 := I.out.c (i := 2) rfl
  have o_I_3 := I.out.c (i := 3) rfl
  have o_I_4 := I.out.c (i := 4) rfl
  have o_I_5 := I.out.c (i := 5) rfl
  have o_I_6 := I.out.c (i := 6) rfl
  go_upto_region 2 with fail
  clear o_I_0 o_I_1 o_I_2 o_I_3 o_I_4 o_I_5 o_I_6
  obtain ⟨w1, hw1⟩ : ∃ W, W = w0.alloc (.cells #[.bool y.has, .int .i64 y.v.r, .int .i64 y.v.c, .int .i64 y.v.b, .int .i64 y.v.p, .int .i64 y.age] 66) := ⟨_, rfl⟩
  have bw1 : Below w0.heap.size w0 w1 := by rw [hw1]; exact (Below.refl _ _).alloc (Nat.le_refl _) _
  have Xw1 : Bx w1 w0.heap.size 66 #[.bool y.has, .int .i64 y.v.r, .int .i64 y.v.c, .int .i64 y.v.b, .int .i64 y.v.p, .int .i64 y.age] := by rw [hw1]; exact Bx.new _ _ _ rfl
  rw [← hw1]
  clear hw1
  have I_w1 := Lib.hid (I.out.below bw1)
  have C_w1 := Lib.hid (C.out.below bw1)
  have X_w1 := Lib.hid (X.out.below bw1)
  have N_w1 := Lib.hid (Xw1)
  have z0_w1 : w.heap.size < w1.heap.size := Nat.lt_of_lt_of_le z0 bw1.size
  have B_w1 := bt B0 bw1
  clear I C X z0 B0 bw1
  have z1_w1 : w0.heap.size < w1.heap.size := Xw1.lt
  clear Xw1
  clear q0 q1 q2 q3 q4 q5 hbI
  obtain ⟨bU, oU, rfl, hbU, qU⟩ := BoolP.SlB.at_ I_w1.out.r.self.ups.sl (up_at (s := t.self) (p := p) hpu)
  rw [hup] at qU
  cases up with
  | false =>
    obtain rfl : false = hh := by rw [← hhh]; first | rfl | simp | (simp <;> omega)
    have o_I_0 := I_w1.out.c (i := 0) rfl
    have o_I_1 := I_w1.out.c (i := 1) rfl
    have o_I_2 := I_w1.out.c (i := 2) rfl
    have o_I_3 := I_w1.out.c (i := 3) rfl
    have o_I_4 := I_w1.out.c (i := 4) rfl
    have o_I_5 := I_w1.out.c (i := 5) rfl
    have o_I_6 := I_w1.out.c (i := 6) rfl
    have o_C_0 := C_w1.out.c (i := 0) rfl
    have o_C_1 := C_w1.out.c (i := 1) rfl
    have o_C_2 := C_w1.out.c (i := 2) rfl
    have o_C_3 := C_w1.out.c (i := 3) rfl
    have o_C_4 := C_w1.out.c (i := 4) rfl
    go_upto_region 3 with fail
    clear o_I_0 o_I_1 o_I_2 o_I_3 o_I_4 o_I_5 o_I_6 o_C_0 o_C_1 o_C_2 o_C_3 o_C_4
    have o_I_0 := I_w1.out.c (i := 0) rfl
    have o_I_1 := I_w1.out.c (i := 1) rfl
    have o_I_2 := I_w1.out.c (i := 2) rfl
    have o_I_3 := I_w1.out.c (i := 3) rfl
    have o_I_4 := I_w1.out.c (i := 4) rfl
    have o_I_5 := I_w1.out.c (i := 5) rfl
    have o_I_6 := I_w1.out.c (i := 6) rfl
    have o_X_0 := X_w1.out.c (i := 0) rfl
    have o_X_1 := X_w1.out.c (i := 1) rfl
    have o_X_2 := X_w1.out.c (i := 2) rfl
    have o_X_3 := X_w1.out.c (i := 3) rfl
    have o_X_4 := X_w1.out.c (i := 4) rfl
    have o_X_5 := X_w1.out.c (i := 5) rfl
    have o_X_6 := X_w1.out.c (i := 6) rfl
    have p_X_0 := X_w1.out.f 0
    have p_X_1 := X_w1.out.f 1
    have p_X_2 := X_w1.out.f 2
    have p_X_3 := X_w1.out.f 3
    have p_X_4 := X_w1.out.f 4
    have p_X_5 := X_w1.out.f 5
    have p_X_6 := X_w1.out.f 6
    have hzx := X_w1.out.lt
    have hbw := Lib.hid B_w1
    clear B_w1
    go_wp2_with fail
    refine bodyPost_ret (v := .tuple #[.agg #[.int .i64 t.self.id, .slice AC t.self.costs.length cC, .slice (some ⟨bU, oU, none⟩) t.self.ups.length cU, .slice (some ⟨bI, oI, none⟩) t.self.infos.length cI, .slice AS t.states.length cS, .int .i64 t.mx, .int .i64 t.dl], .bool false]) (by simp [results, Try.results15, go_sem, o_X_0, o_X_1, o_X_2, o_X_3, o_X_4, o_X_5, o_X_6]) rfl ?_
    refine fin_r (c := 2) (n := w0.heap.size) (t' := t) (wr := w1) (AC := AC) (cC := cC) (AU := some ⟨bU, oU, none⟩) (cU := cU) (AI := some ⟨bI, oI, none⟩) (cI := cI) (AS := AS) (cS := cS) (mk := fun v => .tuple #[v, .bool false]) ?hss hbw.out (by have := n0.out; omega) ?hv ?hr ?s1 ?off
    case hv => rfl
    case hss => repeat (first | with_reducible exact Sets.refl | with_reducible refine Sets.two ?_ | with_reducible refine Sets.one ?_)
    case hr => exact hR0.out.below hbw.out
    case s1 => exact fun b hb => hR0.out.off hb
    case off => exact fun b hs hb => hs
  | true =>
    have hup9 := Lib.hid hup
    have hsz3 := Lib.hid (show w0.heap.size ≤ w1.heap.size from Nat.le_of_lt z1_w1)
    by_cases hg : t.mx ≤ a
    · have hg' : decide (t.mx ≤ a) = true := by simpa using hg
      rw [hg'] at hhh
      obtain rfl : false = hh := by rw [← hhh]; first | rfl | simp | (simp <;> omega)
      have o_I_0 := I_w1.out.c (i := 0) rfl
      have o_I_1 := I_w1.out.c (i := 1) rfl
      have o_I_2 := I_w1.out.c (i := 2) rfl
      have o_I_3 := I_w1.out.c (i := 3) rfl
      have o_I_4 := I_w1.out.c (i := 4) rfl
      have o_I_5 := I_w1.out.c (i := 5) rfl
      have o_I_6 := I_w1.out.c (i := 6) rfl
      have o_C_0 := C_w1.out.c (i := 0) rfl
      have o_C_1 := C_w1.out.c (i := 1) rfl
      have o_C_2 := C_w1.out.c (i := 2) rfl
      have o_C_3 := C_w1.out.c (i := 3) rfl
      have o_C_4 := C_w1.out.c (i := 4) rfl
      go_upto_region 3 with fail
      clear o_I_0 o_I_1 o_I_2 o_I_3 o_I_4 o_I_5 o_I_6 o_C_0 o_C_1 o_C_2 o_C_3 o_C_4
      have o_I_0 := I_w1.out.c (i := 0) rfl
      have o_I_1 := I_w1.out.c (i := 1) rfl
      have o_I_2 := I_w1.out.c (i := 2) rfl
      have o_I_3 := I_w1.out.c (i := 3) rfl
      have o_I_4 := I_w1.out.c (i := 4) rfl
      have o_I_5 := I_w1.out.c (i := 5) rfl
      have o_I_6 := I_w1.out.c (i := 6) rfl
      have o_X_0 := X_w1.out.c (i := 0) rfl
      have o_X_1 := X_w1.out.c (i := 1) rfl
      have o_X_2 := X_w1.out.c (i := 2) rfl
      have o_X_3 := X_w1.out.c (i := 3) rfl
      have o_X_4 := X_w1.out.c (i := 4) rfl
      have o_X_5 := X_w1.out.c (i := 5) rfl
      have o_X_6 := X_w1.out.c (i := 6) rfl
      have p_X_0 := X_w1.out.f 0
      have p_X_1 := X_w1.out.f 1
      have p_X_2 := X_w1.out.f 2
      have p_X_3 := X_w1.out.f 3
      have p_X_4 := X_w1.out.f 4
      have p_X_5 := X_w1.out.f 5
      have p_X_6 := X_w1.out.f 6
      have hzx := X_w1.out.lt
      have hbw := Lib.hid B_w1
      clear B_w1
      go_wp2_with fail
      refine bodyPost_ret (v := .tuple #[.agg #[.int .i64 t.self.id, .slice AC t.self.costs.length cC, .slice (some ⟨bU, oU, none⟩) t.self.ups.length cU, .slice (some ⟨bI, oI, none⟩) t.self.infos.length cI, .slice AS t.states.length cS, .int .i64 t.mx, .int .i64 t.dl], .bool false]) (by simp [results, Try.results15, go_sem, o_X_0, o_X_1, o_X_2, o_X_3, o_X_4, o_X_5, o_X_6]) rfl ?_
      refine fin_r (c := 2) (n := w0.heap.size) (t' := t) (wr := w1) (AC := AC) (cC := cC) (AU := some ⟨bU, oU, none⟩) (cU := cU) (AI := some ⟨bI, oI, none⟩) (cI := cI) (AS := AS) (cS := cS) (mk := fun v => .tuple #[v, .bool false]) ?hss hbw.out (by have := n0.out; omega) ?hv ?hr ?s1 ?off
      case hv => rfl
      case hss => repeat (first | with_reducible exact Sets.refl | with_reducible refine Sets.two ?_ | with_reducible refine Sets.one ?_)
      case hr => exact hR0.out.below hbw.out
      case s1 => exact fun b hb => hR0.out.off hb
      case off => exact fun b hs hb => hs
    · have hg' : decide (t.mx ≤ a) = false := by simpa using hg
      rw [hg'] at hhh
      have hN := N_w1
      have o_I_0 := I_w1.out.c (i := 0) rfl
      have o_I_1 := I_w1.out.c (i := 1) rfl
      have o_I_2 := I_w1.out.c (i := 2) rfl
      have o_I_3 := I_w1.out.c (i := 3) rfl
      have o_I_4 := I_w1.out.c (i := 4) rfl
      have o_I_5 := I_w1.out.c (i := 5) rfl
      have o_I_6 := I_w1.out.c (i := 6) rfl
      have o_C_0 := C_w1.out.c (i := 0) rfl
      have o_C_1 := C_w1.out.c (i := 1) rfl
      have o_C_2 := C_w1.out.c (i := 2) rfl
      have o_C_3 := C_w1.out.c (i := 3) rfl
      have o_C_4 := C_w1.out.c (i := 4) rfl
      have o_N_0 := N_w1.out.c (i := 0) rfl
      have o_N_1 := N_w1.out.c (i := 1) rfl
      have o_N_2 := N_w1.out.c (i := 2) rfl
      have o_N_3 := N_w1.out.c (i := 3) rfl
      have o_N_4 := N_w1.out.c (i := 4) rfl
      have o_N_5 := N_w1.out.c (i := 5) rfl
      go_upto_region 4 with fail
      cases hq1 : (y.v.b == v.b)
      · have hd1 : decide (y.v.b = v.b) = false := by simpa using hq1
        rw [hd1] at hhh
        replace hd1 := Lib.hid hd1
        go_upto_region 5 with fail
        clear o_I_0 o_I_1 o_I_2 o_I_3 o_I_4 o_I_5 o_I_6 o_C_0 o_C_1 o_C_2 o_C_3 o_C_4 o_N_0 o_N_1 o_N_2 o_N_3 o_N_4 o_N_5
        obtain ⟨hs, hhs⟩ : ∃ h, y.has = h := ⟨_, rfl⟩
        rw [hhs] at hhh
        replace hN : Hid (Bx w1 w0.heap.size 66 #[.bool hs, .int .i64 y.v.r, .int .i64 y.v.c, .int .i64 y.v.b, .int .i64 y.v.p, .int .i64 y.age]) := Lib.hid (by have := N_w1.out; rwa [hhs] at this)
        clear hhs
        cases hs
        · obtain rfl : true = hh := by rw [← hhh]; first | rfl | simp | (simp <;> omega)
          have o_C_0 := C_w1.out.c (i := 0) rfl
          have o_C_1 := C_w1.out.c (i := 1) rfl
          have o_C_2 := C_w1.out.c (i := 2) rfl
          have o_C_3 := C_w1.out.c (i := 3) rfl
          have o_C_4 := C_w1.out.c (i := 4) rfl
          have o_N_0 := hN.out.c (i := 0) rfl
          have o_N_1 := hN.out.c (i := 1) rfl
          have o_N_2 := hN.out.c (i := 2) rfl
          have o_N_3 := hN.out.c (i := 3) rfl
          have o_N_4 := hN.out.c (i := 4) rfl
          have o_N_5 := hN.out.c (i := 5) rfl
          go_upto_region 7 with fail
          clear o_C_0 o_C_1 o_C_2 o_C_3 o_C_4 o_N_0 o_N_1 o_N_2 o_N_3 o_N_4 o_N_5
          have hpr := Lib.hid (hpre.out (hup9.out) (by omega))
          have o_I_0 := I_w1.out.c (i := 0) rfl
          have o_I_1 := I_w1.out.c (i := 1) rfl
          have o_I_2 := I_w1.out.c (i := 2) rfl
          have o_I_3 := I_w1.out.c (i := 3) rfl
          have o_I_4 := I_w1.out.c (i := 4) rfl
          have o_I_5 := I_w1.out.c (i := 5) rfl
          have o_I_6 := I_w1.out.c (i := 6) rfl
          have o_C_0 := C_w1.out.c (i := 0) rfl
          have o_C_1 := C_w1.out.c (i := 1) rfl
          have o_C_2 := C_w1.out.c (i := 2) rfl
          have o_C_3 := C_w1.out.c (i := 3) rfl
          have o_C_4 := C_w1.out.c (i := 4) rfl
          go_wp2_with fail
          clear o_I_0 o_I_1 o_I_2 o_I_3 o_I_4 o_I_5 o_I_6 o_C_0 o_C_1 o_C_2 o_C_3 o_C_4
          go_at_call 48
          (with_reducible refine (know_to hli I_w1.out.r).mono ?_)
          rintro e w2 ⟨AC4, cC4, AU4, cU4, AI4, cI4, AS4, cS4, rfl, tr4, hb2, of4⟩
          have I_w2 := Lib.hid (I_w1.out.below hb2)
          have C_w2 := Lib.hid (C_w1.out.below hb2)
          have X_w2 := Lib.hid (X_w1.out.below hb2)
          have N_w2 := Lib.hid (hN.out.below hb2)
          have z0_w2 : w.heap.size < w2.heap.size := Nat.lt_of_lt_of_le z0_w1 hb2.size
          have z1_w2 : w0.heap.size < w2.heap.size := Nat.lt_of_lt_of_le z1_w1 hb2.size
          have B_w2 := bt B_w1 hb2
          clear I_w1 C_w1 X_w1 hN z0_w1 z1_w1 B_w1 hb2
          replace tr4 := Lib.hid tr4
          replace of4 := Lib.hid of4
          have hsz4 := Lib.hid (show w0.heap.size ≤ w2.heap.size from by have := (show w0.heap.size < _ from z1_w2); omega)
          go_wp2_with fail
          go_at_call 44
          (with_reducible refine (settle_to hpr.out tr4.out).mono ?_)
          rintro e w3 ⟨AC5, cC5, AU5, cU5, AI5, cI5, AS5, cS5, rfl, tr5, hb3, of5⟩
          have I_w3 := Lib.hid (I_w2.out.below hb3)
          have C_w3 := Lib.hid (C_w2.out.below hb3)
          have X_w3 := Lib.hid (X_w2.out.below hb3)
          have N_w3 := Lib.hid (N_w2.out.below hb3)
          have z0_w3 : w.heap.size < w3.heap.size := Nat.lt_of_lt_of_le z0_w2 hb3.size
          have z1_w3 : w0.heap.size < w3.heap.size := Nat.lt_of_lt_of_le z1_w2 hb3.size
          have B_w3 := bt B_w2 hb3
          clear I_w2 C_w2 X_w2 N_w2 z0_w2 z1_w2 B_w2 hb3
          replace tr5 := Lib.hid tr5
          replace of5 := Lib.hid of5
          have o_X_0 := X_w3.out.c (i := 0) rfl
          have o_X_1 := X_w3.out.c (i := 1) rfl
          have o_X_2 := X_w3.out.c (i := 2) rfl
          have o_X_3 := X_w3.out.c (i := 3) rfl
          have o_X_4 := X_w3.out.c (i := 4) rfl
          have o_X_5 := X_w3.out.c (i := 5) rfl
          have o_X_6 := X_w3.out.c (i := 6) rfl
          have p_X_0 := X_w3.out.f 0
          have p_X_1 := X_w3.out.f 1
          have p_X_2 := X_w3.out.f 2
          have p_X_3 := X_w3.out.f 3
          have p_X_4 := X_w3.out.f 4
          have p_X_5 := X_w3.out.f 5
          have p_X_6 := X_w3.out.f 6
          have hzx := X_w3.out.lt
          have hbw := Lib.hid B_w3
          clear B_w3
          have hoff := Lib.hid (show ∀ b, OffT b t AC (some ⟨bU, oU, none⟩) (some ⟨bI, oI, none⟩) AS → b < w0.heap.size → OffT b (t.know p ⟨true, v, a⟩).settle AC5 AU5 AI5 AS5 from fun b hs hb => of5.out b (by have := hsz4.out; omega) (of4.out b (by have := hsz3.out; omega) hs))
          go_wp2_with fail
          refine bodyPost_ret (v := .tuple #[tv (t.know p ⟨true, v, a⟩).settle AC5 cC5 AU5 cU5 AI5 cI5 AS5 cS5, .bool true]) (by simp [results, Try.results15, go_sem, o_X_0, o_X_1, o_X_2, o_X_3, o_X_4, o_X_5, o_X_6]) rfl ?_
          refine fin_r (c := 2) (n := w0.heap.size) (t' := (t.know p ⟨true, v, a⟩).settle) (wr := w3) (AC := AC5) (cC := cC5) (AU := AU5) (cU := cU5) (AI := AI5) (cI := cI5) (AS := AS5) (cS := cS5) (mk := fun v => .tuple #[v, .bool true]) ?hss hbw.out (by have := n0.out; omega) rfl tr5.out (fun b hb => hR0.out.off hb) hoff.out
          case hss => repeat (first | with_reducible exact Sets.refl | with_reducible refine Sets.two ?_ | with_reducible refine Sets.one ?_)
        · obtain ⟨β, hβ⟩ : ∃ β, v.bet y.v = β := ⟨_, rfl⟩
          rw [hβ] at hhh
          have hcb := Lib.hid fun W => ref_bet v y.v β hβ W
          clear hβ
          have o_C_0 := C_w1.out.c (i := 0) rfl
          have o_C_1 := C_w1.out.c (i := 1) rfl
          have o_C_2 := C_w1.out.c (i := 2) rfl
          have o_C_3 := C_w1.out.c (i := 3) rfl
          have o_C_4 := C_w1.out.c (i := 4) rfl
          have o_N_0 := hN.out.c (i := 0) rfl
          have o_N_1 := hN.out.c (i := 1) rfl
          have o_N_2 := hN.out.c (i := 2) rfl
          have o_N_3 := hN.out.c (i := 3) rfl
          have o_N_4 := hN.out.c (i := 4) rfl
          have o_N_5 := hN.out.c (i := 5) rfl
          go_wp2_with fail
          clear o_C_0 o_C_1 o_C_2 o_C_3 o_C_4 o_N_0 o_N_1 o_N_2 o_N_3 o_N_4 o_N_5
          go_at_call 47
          (with_reducible refine (hcb.out _).mono ?_)
          rintro e w2 ⟨rfl, hb2⟩
          have I_w2 := Lib.hid (I_w1.out.below hb2)
          have C_w2 := Lib.hid (C_w1.out.below hb2)
          have X_w2 := Lib.hid (X_w1.out.below hb2)
          have N_w2 := Lib.hid (hN.out.below hb2)
          have z0_w2 : w.heap.size < w2.heap.size := Nat.lt_of_lt_of_le z0_w1 hb2.size
          have z1_w2 : w0.heap.size < w2.heap.size := Nat.lt_of_lt_of_le z1_w1 hb2.size
          have B_w2 := bt B_w1 hb2
          clear I_w1 C_w1 X_w1 hN z0_w1 z1_w1 B_w1 hb2
          have hsz3 := Lib.hid (show w0.heap.size ≤ w2.heap.size from Nat.le_of_lt z1_w2)
          cases β
          · obtain rfl : false = hh := by rw [← hhh]; first | rfl | simp | (simp <;> omega)
            go_upto_region 6 with fail
            have o_I_0 := I_w2.out.c (i := 0) rfl
            have o_I_1 := I_w2.out.c (i := 1) rfl
            have o_I_2 := I_w2.out.c (i := 2) rfl
            have o_I_3 := I_w2.out.c (i := 3) rfl
            have o_I_4 := I_w2.out.c (i := 4) rfl
            have o_I_5 := I_w2.out.c (i := 5) rfl
            have o_I_6 := I_w2.out.c (i := 6) rfl
            have o_X_0 := X_w2.out.c (i := 0) rfl
            have o_X_1 := X_w2.out.c (i := 1) rfl
            have o_X_2 := X_w2.out.c (i := 2) rfl
            have o_X_3 := X_w2.out.c (i := 3) rfl
            have o_X_4 := X_w2.out.c (i := 4) rfl
            have o_X_5 := X_w2.out.c (i := 5) rfl
            have o_X_6 := X_w2.out.c (i := 6) rfl
            have p_X_0 := X_w2.out.f 0
            have p_X_1 := X_w2.out.f 1
            have p_X_2 := X_w2.out.f 2
            have p_X_3 := X_w2.out.f 3
            have p_X_4 := X_w2.out.f 4
            have p_X_5 := X_w2.out.f 5
            have p_X_6 := X_w2.out.f 6
            have hzx := X_w2.out.lt
            have hbw := Lib.hid B_w2
            clear B_w2
            go_wp2_with fail
            refine bodyPost_ret (v := .tuple #[.agg #[.int .i64 t.self.id, .slice AC t.self.costs.length cC, .slice (some ⟨bU, oU, none⟩) t.self.ups.length cU, .slice (some ⟨bI, oI, none⟩) t.self.infos.length cI, .slice AS t.states.length cS, .int .i64 t.mx, .int .i64 t.dl], .bool false]) (by simp [results, Try.results15, go_sem, o_X_0, o_X_1, o_X_2, o_X_3, o_X_4, o_X_5, o_X_6]) rfl ?_
            refine fin_r (c := 2) (n := w0.heap.size) (t' := t) (wr := w2) (AC := AC) (cC := cC) (AU := some ⟨bU, oU, none⟩) (cU := cU) (AI := some ⟨bI, oI, none⟩) (cI := cI) (AS := AS) (cS := cS) (mk := fun v => .tuple #[v, .bool false]) ?hss hbw.out (by have := n0.out; omega) ?hv ?hr ?s1 ?off
            case hv => rfl
            case hss => repeat (first | with_reducible exact Sets.refl | with_reducible refine Sets.two ?_ | with_reducible refine Sets.one ?_)
            case hr => exact hR0.out.below hbw.out
            case s1 => exact fun b hb => hR0.out.off hb
            case off => exact fun b hs hb => hs
          · obtain rfl : true = hh := by rw [← hhh]; first | rfl | simp | (simp <;> omega)
            go_upto_region 7 with fail
            have hpr := Lib.hid (hpre.out (hup9.out) (by omega))
            have o_I_0 := I_w2.out.c (i := 0) rfl
            have o_I_1 := I_w2.out.c (i := 1) rfl
            have o_I_2 := I_w2.out.c (i := 2) rfl
            have o_I_3 := I_w2.out.c (i := 3) rfl
            have o_I_4 := I_w2.out.c (i := 4) rfl
            have o_I_5 := I_w2.out.c (i := 5) rfl
            have o_I_6 := I_w2.out.c (i := 6) rfl
            have o_C_0 := C_w2.out.c (i := 0) rfl
            have o_C_1 := C_w2.out.c (i := 1) rfl
            have o_C_2 := C_w2.out.c (i := 2) rfl
            have o_C_3 := C_w2.out.c (i := 3) rfl
            have o_C_4 := C_w2.out.c (i := 4) rfl
            go_wp2_with fail
            clear o_I_0 o_I_1 o_I_2 o_I_3 o_I_4 o_I_5 o_I_6 o_C_0 o_C_1 o_C_2 o_C_3 o_C_4
            go_at_call 48
            (with_reducible refine (know_to hli I_w2.out.r).mono ?_)
            rintro e w3 ⟨AC4, cC4, AU4, cU4, AI4, cI4, AS4, cS4, rfl, tr4, hb3, of4⟩
            have I_w3 := Lib.hid (I_w2.out.below hb3)
            have C_w3 := Lib.hid (C_w2.out.below hb3)
            have X_w3 := Lib.hid (X_w2.out.below hb3)
            have N_w3 := Lib.hid (N_w2.out.below hb3)
            have z0_w3 : w.heap.size < w3.heap.size := Nat.lt_of_lt_of_le z0_w2 hb3.size
            have z1_w3 : w0.heap.size < w3.heap.size := Nat.lt_of_lt_of_le z1_w2 hb3.size
            have B_w3 := bt B_w2 hb3
            clear I_w2 C_w2 X_w2 N_w2 z0_w2 z1_w2 B_w2 hb3
            replace tr4 := Lib.hid tr4
            replace of4 := Lib.hid of4
            have hsz4 := Lib.hid (show w0.heap.size ≤ w3.heap.size from by have := (show w0.heap.size < _ from z1_w3); omega)
            go_wp2_with fail
            go_at_call 44
            (with_reducible refine (settle_to hpr.out tr4.out).mono ?_)
            rintro e w4 ⟨AC5, cC5, AU5, cU5, AI5, cI5, AS5, cS5, rfl, tr5, hb4, of5⟩
            have I_w4 := Lib.hid (I_w3.out.below hb4)
            have C_w4 := Lib.hid (C_w3.out.below hb4)
            have X_w4 := Lib.hid (X_w3.out.below hb4)
            have N_w4 := Lib.hid (N_w3.out.below hb4)
            have z0_w4 : w.heap.size < w4.heap.size := Nat.lt_of_lt_of_le z0_w3 hb4.size
            have z1_w4 : w0.heap.size < w4.heap.size := Nat.lt_of_lt_of_le z1_w3 hb4.size
            have B_w4 := bt B_w3 hb4
            clear I_w3 C_w3 X_w3 N_w3 z0_w3 z1_w3 B_w3 hb4
            replace tr5 := Lib.hid tr5
            replace of5 := Lib.hid of5
            have o_X_0 := X_w4.out.c (i := 0) rfl
            have o_X_1 := X_w4.out.c (i := 1) rfl
            have o_X_2 := X_w4.out.c (i := 2) rfl
            have o_X_3 := X_w4.out.c (i := 3) rfl
            have o_X_4 := X_w4.out.c (i := 4) rfl
            have o_X_5 := X_w4.out.c (i := 5) rfl
            have o_X_6 := X_w4.out.c (i := 6) rfl
            have p_X_0 := X_w4.out.f 0
            have p_X_1 := X_w4.out.f 1
            have p_X_2 := X_w4.out.f 2
            have p_X_3 := X_w4.out.f 3
            have p_X_4 := X_w4.out.f 4
            have p_X_5 := X_w4.out.f 5
            have p_X_6 := X_w4.out.f 6
            have hzx := X_w4.out.lt
            have hbw := Lib.hid B_w4
            clear B_w4
            have hoff := Lib.hid (show ∀ b, OffT b t AC (some ⟨bU, oU, none⟩) (some ⟨bI, oI, none⟩) AS → b < w0.heap.size → OffT b (t.know p ⟨true, v, a⟩).settle AC5 AU5 AI5 AS5 from fun b hs hb => of5.out b (by have := hsz4.out; omega) (of4.out b (by have := hsz3.out; omega) hs))
            go_wp2_with fail
            refine bodyPost_ret (v := .tuple #[tv (t.know p ⟨true, v, a⟩).settle AC5 cC5 AU5 cU5 AI5 cI5 AS5 cS5, .bool true]) (by simp [results, Try.results15, go_sem, o_X_0, o_X_1, o_X_2, o_X_3, o_X_4, o_X_5, o_X_6]) rfl ?_
            refine fin_r (c := 2) (n := w0.heap.size) (t' := (t.know p ⟨true, v, a⟩).settle) (wr := w4) (AC := AC5) (cC := cC5) (AU := AU5) (cU := cU5) (AI := AI5) (cI := cI5) (AS := AS5) (cS := cS5) (mk := fun v => .tuple #[v, .bool true]) ?hss hbw.out (by have := n0.out; omega) rfl tr5.out (fun b hb => hR0.out.off hb) hoff.out
            case hss => repeat (first | with_reducible exact Sets.refl | with_reducible refine Sets.two ?_ | with_reducible refine Sets.one ?_)
      · have hd1 : decide (y.v.b = v.b) = true := by simpa using hq1
        rw [hd1] at hhh
        replace hd1 := Lib.hid hd1
        cases hq2 : (y.v.p == v.p)
        · have hd2 : decide (y.v.p = v.p) = false := by simpa using hq2
          rw [hd2] at hhh
          replace hd2 := Lib.hid hd2
          go_upto_region 5 with fail
          clear o_I_0 o_I_1 o_I_2 o_I_3 o_I_4 o_I_5 o_I_6 o_C_0 o_C_1 o_C_2 o_C_3 o_C_4 o_N_0 o_N_1 o_N_2 o_N_3 o_N_4 o_N_5
          obtain ⟨hs, hhs⟩ : ∃ h, y.has = h := ⟨_, rfl⟩
          rw [hhs] at hhh
          replace hN : Hid (Bx w1 w0.heap.size 66 #[.bool hs, .int .i64 y.v.r, .int .i64 y.v.c, .int .i64 y.v.b, .int .i64 y.v.p, .int .i64 y.age]) := Lib.hid (by have := N_w1.out; rwa [hhs] at this)
          clear hhs
          cases hs
          · obtain rfl : true = hh := by rw [← hhh]; first | rfl | simp | (simp <;> omega)
            have o_C_0 := C_w1.out.c (i := 0) rfl
            have o_C_1 := C_w1.out.c (i := 1) rfl
            have o_C_2 := C_w1.out.c (i := 2) rfl
            have o_C_3 := C_w1.out.c (i := 3) rfl
            have o_C_4 := C_w1.out.c (i := 4) rfl
            have o_N_0 := hN.out.c (i := 0) rfl
            have o_N_1 := hN.out.c (i := 1) rfl
            have o_N_2 := hN.out.c (i := 2) rfl
            have o_N_3 := hN.out.c (i := 3) rfl
            have o_N_4 := hN.out.c (i := 4) rfl
            have o_N_5 := hN.out.c (i := 5) rfl
            go_upto_region 7 with fail
            clear o_C_0 o_C_1 o_C_2 o_C_3 o_C_4 o_N_0 o_N_1 o_N_2 o_N_3 o_N_4 o_N_5
            have hpr := Lib.hid (hpre.out (hup9.out) (by omega))
            have o_I_0 := I_w1.out.c (i := 0) rfl
            have o_I_1 := I_w1.out.c (i := 1) rfl
            have o_I_2 := I_w1.out.c (i := 2) rfl
            have o_I_3 := I_w1.out.c (i := 3) rfl
            have o_I_4 := I_w1.out.c (i := 4) rfl
            have o_I_5 := I_w1.out.c (i := 5) rfl
            have o_I_6 := I_w1.out.c (i := 6) rfl
            have o_C_0 := C_w1.out.c (i := 0) rfl
            have o_C_1 := C_w1.out.c (i := 1) rfl
            have o_C_2 := C_w1.out.c (i := 2) rfl
            have o_C_3 := C_w1.out.c (i := 3) rfl
            have o_C_4 := C_w1.out.c (i := 4) rfl
            go_wp2_with fail
            clear o_I_0 o_I_1 o_I_2 o_I_3 o_I_4 o_I_5 o_I_6 o_C_0 o_C_1 o_C_2 o_C_3 o_C_4
            go_at_call 48
            (with_reducible refine (know_to hli I_w1.out.r).mono ?_)
            rintro e w2 ⟨AC4, cC4, AU4, cU4, AI4, cI4, AS4, cS4, rfl, tr4, hb2, of4⟩
            have I_w2 := Lib.hid (I_w1.out.below hb2)
            have C_w2 := Lib.hid (C_w1.out.below hb2)
            have X_w2 := Lib.hid (X_w1.out.below hb2)
            have N_w2 := Lib.hid (hN.out.below hb2)
            have z0_w2 : w.heap.size < w2.heap.size := Nat.lt_of_lt_of_le z0_w1 hb2.size
            have z1_w2 : w0.heap.size < w2.heap.size := Nat.lt_of_lt_of_le z1_w1 hb2.size
            have B_w2 := bt B_w1 hb2
            clear I_w1 C_w1 X_w1 hN z0_w1 z1_w1 B_w1 hb2
            replace tr4 := Lib.hid tr4
            replace of4 := Lib.hid of4
            have hsz4 := Lib.hid (show w0.heap.size ≤ w2.heap.size from by have := (show w0.heap.size < _ from z1_w2); omega)
            go_wp2_with fail
            go_at_call 44
            (with_reducible refine (settle_to hpr.out tr4.out).mono ?_)
            rintro e w3 ⟨AC5, cC5, AU5, cU5, AI5, cI5, AS5, cS5, rfl, tr5, hb3, of5⟩
            have I_w3 := Lib.hid (I_w2.out.below hb3)
            have C_w3 := Lib.hid (C_w2.out.below hb3)
            have X_w3 := Lib.hid (X_w2.out.below hb3)
            have N_w3 := Lib.hid (N_w2.out.below hb3)
            have z0_w3 : w.heap.size < w3.heap.size := Nat.lt_of_lt_of_le z0_w2 hb3.size
            have z1_w3 : w0.heap.size < w3.heap.size := Nat.lt_of_lt_of_le z1_w2 hb3.size
            have B_w3 := bt B_w2 hb3
            clear I_w2 C_w2 X_w2 N_w2 z0_w2 z1_w2 B_w2 hb3
            replace tr5 := Lib.hid tr5
            replace of5 := Lib.hid of5
            have o_X_0 := X_w3.out.c (i := 0) rfl
            have o_X_1 := X_w3.out.c (i := 1) rfl
            have o_X_2 := X_w3.out.c (i := 2) rfl
            have o_X_3 := X_w3.out.c (i := 3) rfl
            have o_X_4 := X_w3.out.c (i := 4) rfl
            have o_X_5 := X_w3.out.c (i := 5) rfl
            have o_X_6 := X_w3.out.c (i := 6) rfl
            have p_X_0 := X_w3.out.f 0
            have p_X_1 := X_w3.out.f 1
            have p_X_2 := X_w3.out.f 2
            have p_X_3 := X_w3.out.f 3
            have p_X_4 := X_w3.out.f 4
            have p_X_5 := X_w3.out.f 5
            have p_X_6 := X_w3.out.f 6
            have hzx := X_w3.out.lt
            have hbw := Lib.hid B_w3
            clear B_w3
            have hoff := Lib.hid (show ∀ b, OffT b t AC (some ⟨bU, oU, none⟩) (some ⟨bI, oI, none⟩) AS → b < w0.heap.size → OffT b (t.know p ⟨true, v, a⟩).settle AC5 AU5 AI5 AS5 from fun b hs hb => of5.out b (by have := hsz4.out; omega) (of4.out b (by have := hsz3.out; omega) hs))
            go_wp2_with fail
            refine bodyPost_ret (v := .tuple #[tv (t.know p ⟨true, v, a⟩).settle AC5 cC5 AU5 cU5 AI5 cI5 AS5 cS5, .bool true]) (by simp [results, Try.results15, go_sem, o_X_0, o_X_1, o_X_2, o_X_3, o_X_4, o_X_5, o_X_6]) rfl ?_
            refine fin_r (c := 2) (n := w0.heap.size) (t' := (t.know p ⟨true, v, a⟩).settle) (wr := w3) (AC := AC5) (cC := cC5) (AU := AU5) (cU := cU5) (AI := AI5) (cI := cI5) (AS := AS5) (cS := cS5) (mk := fun v => .tuple #[v, .bool true]) ?hss hbw.out (by have := n0.out; omega) rfl tr5.out (fun b hb => hR0.out.off hb) hoff.out
            case hss => repeat (first | with_reducible exact Sets.refl | with_reducible refine Sets.two ?_ | with_reducible refine Sets.one ?_)
          · obtain ⟨β, hβ⟩ : ∃ β, v.bet y.v = β := ⟨_, rfl⟩
            rw [hβ] at hhh
            have hcb := Lib.hid fun W => ref_bet v y.v β hβ W
            clear hβ
            have o_C_0 := C_w1.out.c (i := 0) rfl
            have o_C_1 := C_w1.out.c (i := 1) rfl
            have o_C_2 := C_w1.out.c (i := 2) rfl
            have o_C_3 := C_w1.out.c (i := 3) rfl
            have o_C_4 := C_w1.out.c (i := 4) rfl
            have o_N_0 := hN.out.c (i := 0) rfl
            have o_N_1 := hN.out.c (i := 1) rfl
            have o_N_2 := hN.out.c (i := 2) rfl
            have o_N_3 := hN.out.c (i := 3) rfl
            have o_N_4 := hN.out.c (i := 4) rfl
            have o_N_5 := hN.out.c (i := 5) rfl
            go_wp2_with fail
            clear o_C_0 o_C_1 o_C_2 o_C_3 o_C_4 o_N_0 o_N_1 o_N_2 o_N_3 o_N_4 o_N_5
            go_at_call 47
            (with_reducible refine (hcb.out _).mono ?_)
            rintro e w2 ⟨rfl, hb2⟩
            have I_w2 := Lib.hid (I_w1.out.below hb2)
            have C_w2 := Lib.hid (C_w1.out.below hb2)
            have X_w2 := Lib.hid (X_w1.out.below hb2)
            have N_w2 := Lib.hid (hN.out.below hb2)
            have z0_w2 : w.heap.size < w2.heap.size := Nat.lt_of_lt_of_le z0_w1 hb2.size
            have z1_w2 : w0.heap.size < w2.heap.size := Nat.lt_of_lt_of_le z1_w1 hb2.size
            have B_w2 := bt B_w1 hb2
            clear I_w1 C_w1 X_w1 hN z0_w1 z1_w1 B_w1 hb2
            have hsz3 := Lib.hid (show w0.heap.size ≤ w2.heap.size from Nat.le_of_lt z1_w2)
            cases β
            · obtain rfl : false = hh := by rw [← hhh]; first | rfl | simp | (simp <;> omega)
              go_upto_region 6 with fail
              have o_I_0 := I_w2.out.c (i := 0) rfl
              have o_I_1 := I_w2.out.c (i := 1) rfl
              have o_I_2 := I_w2.out.c (i := 2) rfl
              have o_I_3 := I_w2.out.c (i := 3) rfl
              have o_I_4 := I_w2.out.c (i := 4) rfl
              have o_I_5 := I_w2.out.c (i := 5) rfl
              have o_I_6 := I_w2.out.c (i := 6) rfl
              have o_X_0 := X_w2.out.c (i := 0) rfl
              have o_X_1 := X_w2.out.c (i := 1) rfl
              have o_X_2 := X_w2.out.c (i := 2) rfl
              have o_X_3 := X_w2.out.c (i := 3) rfl
              have o_X_4 := X_w2.out.c (i := 4) rfl
              have o_X_5 := X_w2.out.c (i := 5) rfl
              have o_X_6 := X_w2.out.c (i := 6) rfl
              have p_X_0 := X_w2.out.f 0
              have p_X_1 := X_w2.out.f 1
              have p_X_2 := X_w2.out.f 2
              have p_X_3 := X_w2.out.f 3
              have p_X_4 := X_w2.out.f 4
              have p_X_5 := X_w2.out.f 5
              have p_X_6 := X_w2.out.f 6
              have hzx := X_w2.out.lt
              have hbw := Lib.hid B_w2
              clear B_w2
              go_wp2_with fail
              refine bodyPost_ret (v := .tuple #[.agg #[.int .i64 t.self.id, .slice AC t.self.costs.length cC, .slice (some ⟨bU, oU, none⟩) t.self.ups.length cU, .slice (some ⟨bI, oI, none⟩) t.self.infos.length cI, .slice AS t.states.length cS, .int .i64 t.mx, .int .i64 t.dl], .bool false]) (by simp [results, Try.results15, go_sem, o_X_0, o_X_1, o_X_2, o_X_3, o_X_4, o_X_5, o_X_6]) rfl ?_
              refine fin_r (c := 2) (n := w0.heap.size) (t' := t) (wr := w2) (AC := AC) (cC := cC) (AU := some ⟨bU, oU, none⟩) (cU := cU) (AI := some ⟨bI, oI, none⟩) (cI := cI) (AS := AS) (cS := cS) (mk := fun v => .tuple #[v, .bool false]) ?hss hbw.out (by have := n0.out; omega) ?hv ?hr ?s1 ?off
              case hv => rfl
              case hss => repeat (first | with_reducible exact Sets.refl | with_reducible refine Sets.two ?_ | with_reducible refine Sets.one ?_)
              case hr => exact hR0.out.below hbw.out
              case s1 => exact fun b hb => hR0.out.off hb
              case off => exact fun b hs hb => hs
            · obtain rfl : true = hh := by rw [← hhh]; first | rfl | simp | (simp <;> omega)
              go_upto_region 7 with fail
              have hpr := Lib.hid (hpre.out (hup9.out) (by omega))
              have o_I_0 := I_w2.out.c (i := 0) rfl
              have o_I_1 := I_w2.out.c (i := 1) rfl
              have o_I_2 := I_w2.out.c (i := 2) rfl
              have o_I_3 := I_w2.out.c (i := 3) rfl
              have o_I_4 := I_w2.out.c (i := 4) rfl
              have o_I_5 := I_w2.out.c (i := 5) rfl
              have o_I_6 := I_w2.out.c (i := 6) rfl
              have o_C_0 := C_w2.out.c (i := 0) rfl
              have o_C_1 := C_w2.out.c (i := 1) rfl
              have o_C_2 := C_w2.out.c (i := 2) rfl
              have o_C_3 := C_w2.out.c (i := 3) rfl
              have o_C_4 := C_w2.out.c (i := 4) rfl
              go_wp2_with fail
              clear o_I_0 o_I_1 o_I_2 o_I_3 o_I_4 o_I_5 o_I_6 o_C_0 o_C_1 o_C_2 o_C_3 o_C_4
              go_at_call 48
              (with_reducible refine (know_to hli I_w2.out.r).mono ?_)
              rintro e w3 ⟨AC4, cC4, AU4, cU4, AI4, cI4, AS4, cS4, rfl, tr4, hb3, of4⟩
              have I_w3 := Lib.hid (I_w2.out.below hb3)
              have C_w3 := Lib.hid (C_w2.out.below hb3)
              have X_w3 := Lib.hid (X_w2.out.below hb3)
              have N_w3 := Lib.hid (N_w2.out.below hb3)
              have z0_w3 : w.heap.size < w3.heap.size := Nat.lt_of_lt_of_le z0_w2 hb3.size
              have z1_w3 : w0.heap.size < w3.heap.size := Nat.lt_of_lt_of_le z1_w2 hb3.size
              have B_w3 := bt B_w2 hb3
              clear I_w2 C_w2 X_w2 N_w2 z0_w2 z1_w2 B_w2 hb3
              replace tr4 := Lib.hid tr4
              replace of4 := Lib.hid of4
              have hsz4 := Lib.hid (show w0.heap.size ≤ w3.heap.size from by have := (show w0.heap.size < _ from z1_w3); omega)
              go_wp2_with fail
              go_at_call 44
              (with_reducible refine (settle_to hpr.out tr4.out).mono ?_)
              rintro e w4 ⟨AC5, cC5, AU5, cU5, AI5, cI5, AS5, cS5, rfl, tr5, hb4, of5⟩
              have I_w4 := Lib.hid (I_w3.out.below hb4)
              have C_w4 := Lib.hid (C_w3.out.below hb4)
              have X_w4 := Lib.hid (X_w3.out.below hb4)
              have N_w4 := Lib.hid (N_w3.out.below hb4)
              have z0_w4 : w.heap.size < w4.heap.size := Nat.lt_of_lt_of_le z0_w3 hb4.size
              have z1_w4 : w0.heap.size < w4.heap.size := Nat.lt_of_lt_of_le z1_w3 hb4.size
              have B_w4 := bt B_w3 hb4
              clear I_w3 C_w3 X_w3 N_w3 z0_w3 z1_w3 B_w3 hb4
              replace tr5 := Lib.hid tr5
              replace of5 := Lib.hid of5
              have o_X_0 := X_w4.out.c (i := 0) rfl
              have o_X_1 := X_w4.out.c (i := 1) rfl
              have o_X_2 := X_w4.out.c (i := 2) rfl
              have o_X_3 := X_w4.out.c (i := 3) rfl
              have o_X_4 := X_w4.out.c (i := 4) rfl
              have o_X_5 := X_w4.out.c (i := 5) rfl
              have o_X_6 := X_w4.out.c (i := 6) rfl
              have p_X_0 := X_w4.out.f 0
              have p_X_1 := X_w4.out.f 1
              have p_X_2 := X_w4.out.f 2
              have p_X_3 := X_w4.out.f 3
              have p_X_4 := X_w4.out.f 4
              have p_X_5 := X_w4.out.f 5
              have p_X_6 := X_w4.out.f 6
              have hzx := X_w4.out.lt
              have hbw := Lib.hid B_w4
              clear B_w4
              have hoff := Lib.hid (show ∀ b, OffT b t AC (some ⟨bU, oU, none⟩) (some ⟨bI, oI, none⟩) AS → b < w0.heap.size → OffT b (t.know p ⟨true, v, a⟩).settle AC5 AU5 AI5 AS5 from fun b hs hb => of5.out b (by have := hsz4.out; omega) (of4.out b (by have := hsz3.out; omega) hs))
              go_wp2_with fail
              refine bodyPost_ret (v := .tuple #[tv (t.know p ⟨true, v, a⟩).settle AC5 cC5 AU5 cU5 AI5 cI5 AS5 cS5, .bool true]) (by simp [results, Try.results15, go_sem, o_X_0, o_X_1, o_X_2, o_X_3, o_X_4, o_X_5, o_X_6]) rfl ?_
              refine fin_r (c := 2) (n := w0.heap.size) (t' := (t.know p ⟨true, v, a⟩).settle) (wr := w4) (AC := AC5) (cC := cC5) (AU := AU5) (cU := cU5) (AI := AI5) (cI := cI5) (AS := AS5) (cS := cS5) (mk := fun v => .tuple #[v, .bool true]) ?hss hbw.out (by have := n0.out; omega) rfl tr5.out (fun b hb => hR0.out.off hb) hoff.out
              case hss => repeat (first | with_reducible exact Sets.refl | with_reducible refine Sets.two ?_ | with_reducible refine Sets.one ?_)
        · have hd2 : decide (y.v.p = v.p) = true := by simpa using hq2
          rw [hd2] at hhh
          replace hd2 := Lib.hid hd2
          go_upto_region 5 with fail
          clear o_I_0 o_I_1 o_I_2 o_I_3 o_I_4 o_I_5 o_I_6 o_C_0 o_C_1 o_C_2 o_C_3 o_C_4 o_N_0 o_N_1 o_N_2 o_N_3 o_N_4 o_N_5
          obtain ⟨hs, hhs⟩ : ∃ h, y.has = h := ⟨_, rfl⟩
          rw [hhs] at hhh
          replace hN : Hid (Bx w1 w0.heap.size 66 #[.bool hs, .int .i64 y.v.r, .int .i64 y.v.c, .int .i64 y.v.b, .int .i64 y.v.p, .int .i64 y.age]) := Lib.hid (by have := N_w1.out; rwa [hhs] at this)
          clear hhs
          cases hs
          · obtain rfl : true = hh := by rw [← hhh]; first | rfl | simp | (simp <;> omega)
            have o_C_0 := C_w1.out.c (i := 0) rfl
            have o_C_1 := C_w1.out.c (i := 1) rfl
            have o_C_2 := C_w1.out.c (i := 2) rfl
            have o_C_3 := C_w1.out.c (i := 3) rfl
            have o_C_4 := C_w1.out.c (i := 4) rfl
            have o_N_0 := hN.out.c (i := 0) rfl
            have o_N_1 := hN.out.c (i := 1) rfl
            have o_N_2 := hN.out.c (i := 2) rfl
            have o_N_3 := hN.out.c (i := 3) rfl
            have o_N_4 := hN.out.c (i := 4) rfl
            have o_N_5 := hN.out.c (i := 5) rfl
            go_upto_region 7 with fail
            clear o_C_0 o_C_1 o_C_2 o_C_3 o_C_4 o_N_0 o_N_1 o_N_2 o_N_3 o_N_4 o_N_5
            have hpr := Lib.hid (hpre.out (hup9.out) (by omega))
            have o_I_0 := I_w1.out.c (i := 0) rfl
            have o_I_1 := I_w1.out.c (i := 1) rfl
            have o_I_2 := I_w1.out.c (i := 2) rfl
            have o_I_3 := I_w1.out.c (i := 3) rfl
            have o_I_4 := I_w1.out.c (i := 4) rfl
            have o_I_5 := I_w1.out.c (i := 5) rfl
            have o_I_6 := I_w1.out.c (i := 6) rfl
            have o_C_0 := C_w1.out.c (i := 0) rfl
            have o_C_1 := C_w1.out.c (i := 1) rfl
            have o_C_2 := C_w1.out.c (i := 2) rfl
            have o_C_3 := C_w1.out.c (i := 3) rfl
            have o_C_4 := C_w1.out.c (i := 4) rfl
            go_wp2_with fail
            clear o_I_0 o_I_1 o_I_2 o_I_3 o_I_4 o_I_5 o_I_6 o_C_0 o_C_1 o_C_2 o_C_3 o_C_4
            go_at_call 48
            (with_reducible refine (know_to hli I_w1.out.r).mono ?_)
            rintro e w2 ⟨AC4, cC4, AU4, cU4, AI4, cI4, AS4, cS4, rfl, tr4, hb2, of4⟩
            have I_w2 := Lib.hid (I_w1.out.below hb2)
            have C_w2 := Lib.hid (C_w1.out.below hb2)
            have X_w2 := Lib.hid (X_w1.out.below hb2)
            have N_w2 := Lib.hid (hN.out.below hb2)
            have z0_w2 : w.heap.size < w2.heap.size := Nat.lt_of_lt_of_le z0_w1 hb2.size
            have z1_w2 : w0.heap.size < w2.heap.size := Nat.lt_of_lt_of_le z1_w1 hb2.size
            have B_w2 := bt B_w1 hb2
            clear I_w1 C_w1 X_w1 hN z0_w1 z1_w1 B_w1 hb2
            replace tr4 := Lib.hid tr4
            replace of4 := Lib.hid of4
            have hsz4 := Lib.hid (show w0.heap.size ≤ w2.heap.size from by have := (show w0.heap.size < _ from z1_w2); omega)
            go_wp2_with fail
            go_at_call 44
            (with_reducible refine (settle_to hpr.out tr4.out).mono ?_)
            rintro e w3 ⟨AC5, cC5, AU5, cU5, AI5, cI5, AS5, cS5, rfl, tr5, hb3, of5⟩
            have I_w3 := Lib.hid (I_w2.out.below hb3)
            have C_w3 := Lib.hid (C_w2.out.below hb3)
            have X_w3 := Lib.hid (X_w2.out.below hb3)
            have N_w3 := Lib.hid (N_w2.out.below hb3)
            have z0_w3 : w.heap.size < w3.heap.size := Nat.lt_of_lt_of_le z0_w2 hb3.size
            have z1_w3 : w0.heap.size < w3.heap.size := Nat.lt_of_lt_of_le z1_w2 hb3.size
            have B_w3 := bt B_w2 hb3
            clear I_w2 C_w2 X_w2 N_w2 z0_w2 z1_w2 B_w2 hb3
            replace tr5 := Lib.hid tr5
            replace of5 := Lib.hid of5
            have o_X_0 := X_w3.out.c (i := 0) rfl
            have o_X_1 := X_w3.out.c (i := 1) rfl
            have o_X_2 := X_w3.out.c (i := 2) rfl
            have o_X_3 := X_w3.out.c (i := 3) rfl
            have o_X_4 := X_w3.out.c (i := 4) rfl
            have o_X_5 := X_w3.out.c (i := 5) rfl
            have o_X_6 := X_w3.out.c (i := 6) rfl
            have p_X_0 := X_w3.out.f 0
            have p_X_1 := X_w3.out.f 1
            have p_X_2 := X_w3.out.f 2
            have p_X_3 := X_w3.out.f 3
            have p_X_4 := X_w3.out.f 4
            have p_X_5 := X_w3.out.f 5
            have p_X_6 := X_w3.out.f 6
            have hzx := X_w3.out.lt
            have hbw := Lib.hid B_w3
            clear B_w3
            have hoff := Lib.hid (show ∀ b, OffT b t AC (some ⟨bU, oU, none⟩) (some ⟨bI, oI, none⟩) AS → b < w0.heap.size → OffT b (t.know p ⟨true, v, a⟩).settle AC5 AU5 AI5 AS5 from fun b hs hb => of5.out b (by have := hsz4.out; omega) (of4.out b (by have := hsz3.out; omega) hs))
            go_wp2_with fail
            refine bodyPost_ret (v := .tuple #[tv (t.know p ⟨true, v, a⟩).settle AC5 cC5 AU5 cU5 AI5 cI5 AS5 cS5, .bool true]) (by simp [results, Try.results15, go_sem, o_X_0, o_X_1, o_X_2, o_X_3, o_X_4, o_X_5, o_X_6]) rfl ?_
            refine fin_r (c := 2) (n := w0.heap.size) (t' := (t.know p ⟨true, v, a⟩).settle) (wr := w3) (AC := AC5) (cC := cC5) (AU := AU5) (cU := cU5) (AI := AI5) (cI := cI5) (AS := AS5) (cS := cS5) (mk := fun v => .tuple #[v, .bool true]) ?hss hbw.out (by have := n0.out; omega) rfl tr5.out (fun b hb => hR0.out.off hb) hoff.out
            case hss => repeat (first | with_reducible exact Sets.refl | with_reducible refine Sets.two ?_ | with_reducible refine Sets.one ?_)
          · obtain rfl : true = hh := by rw [← hhh]; first | rfl | simp | (simp <;> omega)
            have o_C_0 := C_w1.out.c (i := 0) rfl
            have o_C_1 := C_w1.out.c (i := 1) rfl
            have o_C_2 := C_w1.out.c (i := 2) rfl
            have o_C_3 := C_w1.out.c (i := 3) rfl
            have o_C_4 := C_w1.out.c (i := 4) rfl
            have o_N_0 := hN.out.c (i := 0) rfl
            have o_N_1 := hN.out.c (i := 1) rfl
            have o_N_2 := hN.out.c (i := 2) rfl
            have o_N_3 := hN.out.c (i := 3) rfl
            have o_N_4 := hN.out.c (i := 4) rfl
            have o_N_5 := hN.out.c (i := 5) rfl
            go_upto_region 7 with fail
            clear o_C_0 o_C_1 o_C_2 o_C_3 o_C_4 o_N_0 o_N_1 o_N_2 o_N_3 o_N_4 o_N_5
            have hpr := Lib.hid (hpre.out (hup9.out) (by omega))
            have o_I_0 := I_w1.out.c (i := 0) rfl
            have o_I_1 := I_w1.out.c (i := 1) rfl
            have o_I_2 := I_w1.out.c (i := 2) rfl
            have o_I_3 := I_w1.out.c (i := 3) rfl
            have o_I_4 := I_w1.out.c (i := 4) rfl
            have o_I_5 := I_w1.out.c (i := 5) rfl
            have o_I_6 := I_w1.out.c (i := 6) rfl
            have o_C_0 := C_w1.out.c (i := 0) rfl
            have o_C_1 := C_w1.out.c (i := 1) rfl
            have o_C_2 := C_w1.out.c (i := 2) rfl
            have o_C_3 := C_w1.out.c (i := 3) rfl
            have o_C_4 := C_w1.out.c (i := 4) rfl
            go_wp2_with fail
            clear o_I_0 o_I_1 o_I_2 o_I_3 o_I_4 o_I_5 o_I_6 o_C_0 o_C_1 o_C_2 o_C_3 o_C_4
            go_at_call 48
            (with_reducible refine (know_to hli I_w1.out.r).mono ?_)
            rintro e w2 ⟨AC4, cC4, AU4, cU4, AI4, cI4, AS4, cS4, rfl, tr4, hb2, of4⟩
            have I_w2 := Lib.hid (I_w1.out.below hb2)
            have C_w2 := Lib.hid (C_w1.out.below hb2)
            have X_w2 := Lib.hid (X_w1.out.below hb2)
            have N_w2 := Lib.hid (hN.out.below hb2)
            have z0_w2 : w.heap.size < w2.heap.size := Nat.lt_of_lt_of_le z0_w1 hb2.size
            have z1_w2 : w0.heap.size < w2.heap.size := Nat.lt_of_lt_of_le z1_w1 hb2.size
            have B_w2 := bt B_w1 hb2
            clear I_w1 C_w1 X_w1 hN z0_w1 z1_w1 B_w1 hb2
            replace tr4 := Lib.hid tr4
            replace of4 := Lib.hid of4
            have hsz4 := Lib.hid (show w0.heap.size ≤ w2.heap.size from by have := (show w0.heap.size < _ from z1_w2); omega)
            go_wp2_with fail
            go_at_call 44
            (with_reducible refine (settle_to hpr.out tr4.out).mono ?_)
            rintro e w3 ⟨AC5, cC5, AU5, cU5, AI5, cI5, AS5, cS5, rfl, tr5, hb3, of5⟩
            have I_w3 := Lib.hid (I_w2.out.below hb3)
            have C_w3 := Lib.hid (C_w2.out.below hb3)
            have X_w3 := Lib.hid (X_w2.out.below hb3)
            have N_w3 := Lib.hid (N_w2.out.below hb3)
            have z0_w3 : w.heap.size < w3.heap.size := Nat.lt_of_lt_of_le z0_w2 hb3.size
            have z1_w3 : w0.heap.size < w3.heap.size := Nat.lt_of_lt_of_le z1_w2 hb3.size
            have B_w3 := bt B_w2 hb3
            clear I_w2 C_w2 X_w2 N_w2 z0_w2 z1_w2 B_w2 hb3
            replace tr5 := Lib.hid tr5
            replace of5 := Lib.hid of5
            have o_X_0 := X_w3.out.c (i := 0) rfl
            have o_X_1 := X_w3.out.c (i := 1) rfl
            have o_X_2 := X_w3.out.c (i := 2) rfl
            have o_X_3 := X_w3.out.c (i := 3) rfl
            have o_X_4 := X_w3.out.c (i := 4) rfl
            have o_X_5 := X_w3.out.c (i := 5) rfl
            have o_X_6 := X_w3.out.c (i := 6) rfl
            have p_X_0 := X_w3.out.f 0
            have p_X_1 := X_w3.out.f 1
            have p_X_2 := X_w3.out.f 2
            have p_X_3 := X_w3.out.f 3
            have p_X_4 := X_w3.out.f 4
            have p_X_5 := X_w3.out.f 5
            have p_X_6 := X_w3.out.f 6
            have hzx := X_w3.out.lt
            have hbw := Lib.hid B_w3
            clear B_w3
            have hoff := Lib.hid (show ∀ b, OffT b t AC (some ⟨bU, oU, none⟩) (some ⟨bI, oI, none⟩) AS → b < w0.heap.size → OffT b (t.know p ⟨true, v, a⟩).settle AC5 AU5 AI5 AS5 from fun b hs hb => of5.out b (by have := hsz4.out; omega) (of4.out b (by have := hsz3.out; omega) hs))
            go_wp2_with fail
            refine bodyPost_ret (v := .tuple #[tv (t.know p ⟨true, v, a⟩).settle AC5 cC5 AU5 cU5 AI5 cI5 AS5 cS5, .bool true]) (by simp [results, Try.results15, go_sem, o_X_0, o_X_1, o_X_2, o_X_3, o_X_4, o_X_5, o_X_6]) rfl ?_
            refine fin_r (c := 2) (n := w0.heap.size) (t' := (t.know p ⟨true, v, a⟩).settle) (wr := w3) (AC := AC5) (cC := cC5) (AU := AU5) (cU := cU5) (AI := AI5) (cI := cI5) (AS := AS5) (cS := cS5) (mk := fun v => .tuple #[v, .bool true]) ?hss hbw.out (by have := n0.out; omega) rfl tr5.out (fun b hb => hR0.out.off hb) hoff.out
            case hss => repeat (first | with_reducible exact Sets.refl | with_reducible refine Sets.two ?_ | with_reducible refine Sets.one ?_)
end Go.Proofs.Ytidoaccidmmalaa.StpP

/-
  Contract of footwayref12: Link.
-/
namespace Go.Proofs.Ytidoaccidmmalaa.StpP
open Go.Proofs.Ytidoaccidmmalaa.MacP (arr_out Wrote wp_region_ends outM)
open Go.RowKit Go.Sort Go.Proofs.Ytidoaccidmmalaa.SliceP Go.Proofs.Ytidoaccidmmalaa.BoxP Go.Proofs.Ytidoaccidmmalaa.VecP Go.Proofs.Ytidoaccidmmalaa.RoleP
open Go.Proofs.Ytidoaccidmmalaa.IntP (RowI SlI OwnI)
open Go.Proofs.Ytidoaccidmmalaa.BoolP (RowB SlB OwnB)
open Go.Proofs.Ytidoaccidmmalaa.PortP (okS roleS tickS sv)
set_option linter.unusedVariables false
set_option maxRecDepth 100000
theorem know0_to {t : T} {AC : Option Addr} {cC : Nat} {AU : Option Addr} {cU : Nat} {AI : Option Addr} {cI : Nat} {AS : Option Addr} {cS : Nat} {w : World} {p : Nat} (hlen : t.self.infos.length ≤ 8) (hR : TreeR w t AC cC AU cU AI cI AS cS) : Calls Try.prog 48 #[tv t AC cC AU cU AI cI AS cS, .int .i64 p, .agg #[.bool false, .int .i64 0, .int .i64 0, .int .i64 0, .int .i64 0, .int .i64 0]] w (RetT w (fun b => OffT b t AC AU AI AS) (t.know p N0) (fun v => v)) := r_know (x := N0) hlen hR
def set7 (w : World) (b : Nat) (v0 v1 v2 v3 v4 v5 v6 : Value) : World := ((((((w.setCell ⟨b, 0, none⟩ v0).setCell ⟨b, 1, none⟩ v1).setCell ⟨b, 2, none⟩ v2).setCell ⟨b, 3, none⟩ v3).setCell ⟨b, 4, none⟩ v4).setCell ⟨b, 5, none⟩ v5).setCell ⟨b, 6, none⟩ v6
section
variable {w w0 : World} {b n : Nat} {T : TypeId} {v0 v1 v2 v3 v4 v5 v6 u0 u1 u2 u3 u4 u5 u6 : Value}
theorem set7_bx (h : Bx w b T #[u0, u1, u2, u3, u4, u5, u6]) : Bx (set7 w b v0 v1 v2 v3 v4 v5 v6) b T #[v0, v1, v2, v3, v4, v5, v6] := by
  have h0 : Bx _ b T #[v0, u1, u2, u3, u4, u5, u6] := h.set 0 v0
  have h1 : Bx _ b T #[v0, v1, u2, u3, u4, u5, u6] := h0.set 1 v1
  have h2 : Bx _ b T #[v0, v1, v2, u3, u4, u5, u6] := h1.set 2 v2
  have h3 : Bx _ b T #[v0, v1, v2, v3, u4, u5, u6] := h2.set 3 v3
  have h4 : Bx _ b T #[v0, v1, v2, v3, v4, u5, u6] := h3.set 4 v4
  have h5 : Bx _ b T #[v0, v1, v2, v3, v4, v5, u6] := h4.set 5 v5
  exact h5.set 6 v6
theorem set7_bel (h : Below n w0 w) (hb : n ≤ b) : Below n w0 (set7 w b v0 v1 v2 v3 v4 v5 v6) := ((((((h.setCell hb _).setCell hb _).setCell hb _).setCell hb _).setCell hb _).setCell hb _).setCell hb _
theorem set7_oth {c : Nat} {vals : Array Value} (h : Bx w c T vals) (hc : c ≠ b) : Bx (set7 w b v0 v1 v2 v3 v4 v5 v6) c T vals := ((((((h.other hc _ _).other hc _ _).other hc _ _).other hc _ _).other hc _ _).other hc _ _).other hc _ _
theorem set7_sets : Sets b b w (set7 w b v0 v1 v2 v3 v4 v5 v6) := by
  unfold set7
  repeat (first | with_reducible exact Sets.refl | with_reducible refine Sets.one ?_)
end
set_option maxHeartbeats 16000000 in
theorem r_link {t : T} {AC : Option Addr} {cC : Nat} {AU : Option Addr} {cU : Nat} {AI : Option Addr} {cI : Nat} {AS : Option Addr} {cS : Nat} {w : World} {p : Nat} {up : Bool} (hok : t.ok = true) (hp : p < t.states.length) (hR : TreeR w t AC cC AU cU AI cI AS cS) :
    Calls Try.prog 23 #[tv t AC cC AU cU AI cI AS cS, .int .i64 p, .bool up] w (RetT w (fun b => OffT b t AC AU AI AS) (t.link p up) (fun x => x)) := by
  obtain ⟨k1, k2, k3, k4⟩ := ok_headT hok
  have e1 := (head_iff.1 (ok_head k1)).2.2
  have e2 := (head_iff.1 (ok_head k1)).2.1.2
  have hpu : p < t.self.ups.length := by omega
  have hpu2 : (p : Int) < (t.self.ups.length : Int) := by omega
  have hli : t.self.infos.length ≤ 8 := by omega
  have hlu : t.self.ups.length ≤ 8 := by omega
  have hpre := Lib.hid (blank_pre (up := up) hok hp)
  clear e1 e2 k1 k2 k3 k4 hok hp
  obtain ⟨w0, hw0⟩ : ∃ W, W = (w.alloc (.cells #[.int .i64 t.self.id, .slice AC t.self.costs.length cC, .slice AU t.self.ups.length cU, .slice AI t.self.infos.length cI, .slice AS t.states.length cS, .int .i64 t.mx, .int .i64 t.dl] 29)).alloc (.cells #[.int .i64 0, .slice none 0 0, .slice none 0 0, .slice none 0 0, .slice none 0 0, .int .i64 0, .int .i64 0] 29) := ⟨_, rfl⟩
  have bI : Below (w.alloc (.cells #[.int .i64 t.self.id, .slice AC t.self.costs.length cC, .slice AU t.self.ups.length cU, .slice AI t.self.infos.length cI, .slice AS t.states.length cS, .int .i64 t.mx, .int .i64 t.dl] 29)).heap.size (w.alloc (.cells #[.int .i64 t.self.id, .slice AC t.self.costs.length cC, .slice AU t.self.ups.length cU, .slice AI t.self.infos.length cI, .slice AS t.states.length cS, .int .i64 t.mx, .int .i64 t.dl] 29)) w0 := by rw [hw0]; exact (Below.refl _ _).alloc (Nat.le_refl _) _
  have I := Lib.hid (show InT w w0 t AC cC AU cU AI cI AS cS from (InT.new hR).below bI)
  have X := Lib.hid (show Bx w0 (w.heap.size + 1) 29 #[.int .i64 0, .slice none 0 0, .slice none 0 0, .slice none 0 0, .slice none 0 0, .int .i64 0, .int .i64 0] by rw [hw0]; exact Bx.new _ _ _ (by simp))
  have n0 := Lib.hid (show w.heap.size + 2 = w0.heap.size by rw [hw0]; simp)
  have hR0 := Lib.hid hR
  clear bI hR
  obtain ⟨bU, oU, rfl, hbU, qU⟩ := BoolP.SlB.at_ I.out.r.self.ups.sl (up_at (s := t.self) (p := p) hpu)
  obtain ⟨us, hus⟩ : ∃ u, t.self.up p = u := ⟨_, rfl⟩
  rw [hus] at qU
  have z0 := I.out.x.lt
  have B0 := I.out.b
  obtain ⟨lk, hlk⟩ : ∃ u, t.link p up = u := ⟨_, rfl⟩
  rw [hlk]
  replace hlk := Lib.hid hlk
  go_enter Try.func23, Try.ntmps23
  go_upto_region 1 with fail
  rw [← hw0]
  clear hw0
  by_cases hb0 : (up && us) = true
  · have hbu : t.blankAt p up = t := by unfold T.blankAt; rw [hus, if_pos hb0]
    obtain rfl : (t.upAt p up).settle = lk := by rw [← hlk.out]; unfold T.link; rw [hbu]
    rw [hbu] at hpre
    have hpre9 := hpre
    clear hlk
    rw [Bool.and_eq_true] at hb0
    obtain ⟨rfl, rfl⟩ := hb0
    have S := Lib.hid I.out.x
    have T0' := Lib.hid I.out.r
    have BB := Lib.hid B0
    have of0 := Lib.hid (show ∀ b, OffT b t AC (some ⟨bU, oU, none⟩) AI AS → b < w0.heap.size → OffT b t AC (some ⟨bU, oU, none⟩) AI AS from fun b h _ => h)
    clear hpre
    have o_I_0 := I.out.c (i := 0) rfl
    have o_I_1 := I.out.c (i := 1) rfl
    have o_I_2 := I.out.c (i := 2) rfl
    have o_I_3 := I.out.c (i := 3) rfl
    have o_I_4 := I.out.c (i := 4) rfl
    have o_I_5 := I.out.c (i := 5) rfl
    have o_I_6 := I.out.c (i := 6) rfl
    go_upto_region 3 with fail
    clear o_I_0 o_I_1 o_I_2 o_I_3 o_I_4 o_I_5 o_I_6
    clear qU hbU z0 B0 hus hbu
    obtain ⟨w2, hw2⟩ : ∃ W, W = w0.alloc (.cells #[] 4) := ⟨_, rfl⟩
    have b2 : Below w0.heap.size w0 w2 := by rw [hw2]; exact (Below.refl _ _).alloc (Nat.le_refl _) _
    have O2 := Lib.hid (show OwnB w2 w0.heap.size (.slice (some ⟨w0.heap.size, 0, none⟩) 0 0) [] by rw [hw2]; exact own_lit0 w0 _ _ _ (Nat.le_refl _))
    have B2 := Lib.hid b2
    have S2 := Lib.hid (S.out.below b2)
    have hlu9 : (t).self.ups.length ≤ 8 := by exact hlu
    have z2 := S2.out.lt
    have o_0 := S.out.c (i := 0) rfl
    have s_0 := S2.out.c (i := 0) rfl
    have o_1 := S.out.c (i := 1) rfl
    have s_1 := S2.out.c (i := 1) rfl
    have o_2 := S.out.c (i := 2) rfl
    have s_2 := S2.out.c (i := 2) rfl
    have o_3 := S.out.c (i := 3) rfl
    have s_3 := S2.out.c (i := 3) rfl
    have o_4 := S.out.c (i := 4) rfl
    have s_4 := S2.out.c (i := 4) rfl
    have o_5 := S.out.c (i := 5) rfl
    have s_5 := S2.out.c (i := 5) rfl
    have o_6 := S.out.c (i := 6) rfl
    have s_6 := S2.out.c (i := 6) rfl
    have zz := S.out.lt
    go_upto_region 4 with fail
    rw [← hw2]
    clear hw2 b2 zz o_0 o_1 o_2 o_3 o_4 o_5 o_6
    go_wp2_with fail
    clear z2 s_0 s_1 s_2 s_3 s_4 s_5 s_6
    go_loopw [7, 30] (fun v3 i wr => ∃ (k : Nat) (L : List Bool), k ≤ (t).self.ups.length ∧ i = .int .i64 k ∧ L = ((t).self.ups.set p true).take k ∧ OwnB wr w0.heap.size v3 L ∧ Below w0.heap.size w0 wr) (fun _ i _ => (t).self.ups.length - (intOf i).toNat)
    case atStart => exact ⟨0, [], by omega, rfl, by simp, O2.out, B2.out⟩
    case round =>
      clear O2 B2 S2
      obtain ⟨k, L, hk, rfl, hL, hown, hb⟩ := hrel
      obtain ⟨A3, c3, hv3⟩ := own_formB hown
      subst hv3
      have Sr := Lib.hid (S.out.below hb)
      have Xr := Lib.hid (X.out.below hb)
      have Tr := Lib.hid (T0'.out.below hb)
      by_cases hkn : k < (t).self.ups.length
      · obtain ⟨bV, oV, hAU, hbV, q0⟩ := BoolP.SlB.at_ Tr.out.self.ups.sl (up_at (s := (t).self) (p := k) hkn)
        obtain ⟨y, hy⟩ : ∃ y, (t).self.up k = y := ⟨_, rfl⟩
        rw [hy] at q0
        have hgi : (t).self.ups[k]? = some y := by rw [← hy]; exact up_at hkn
        have hlenL := Lib.hid (show L.length = k by rw [hL, List.length_take, List.length_set]; omega)
        have hkl : (k : Int) < ((t).self.ups.length : Int) := by omega
        have hsy : k ≠ p → L ++ [y] = ((t).self.ups.set p true).take (k + 1) := fun h => by rw [List.take_add_one, List.getElem?_set_ne (Ne.symm h), hgi, hL]; rfl
        have hsx : k = p → L ++ [true] = ((t).self.ups.set p true).take (k + 1) := fun h => by subst h; rw [List.take_add_one, List.getElem?_set_self hkn, hL]; rfl
        replace hsy := Lib.hid hsy
        replace hsx := Lib.hid hsx
        replace hL := Lib.hid hL
        replace hy := Lib.hid hy
        replace hgi := Lib.hid hgi
        replace hown := Lib.hid hown
        replace hb := Lib.hid hb
        obtain ⟨rfl, rfl⟩ : bU = bV ∧ oU = oV := by injection hAU with h; injection h with h1 h2; exact ⟨h1, h2⟩
        clear hAU
        by_cases hkp : k = p
        · have hkp' : ((k : Int) == (p : Int)) = true := by rw [hkp]; exact beq_self_eq_true _
          replace hkp := Lib.hid hkp
          obtain ⟨w8, hw8⟩ : ∃ W, W = wr.alloc (.cells #[.bool true] 4) := ⟨_, rfl⟩
          have b8 : Below wr.heap.size wr w8 := by rw [hw8]; exact (Below.refl _ _).alloc (Nat.le_refl _) _
          have hsl := Lib.hid (show Sl w8 1 (some ⟨wr.heap.size, 0, none⟩) (BoolP.cB [true]) from bx_sl (T := 4) (vals := #[.bool true]) (by rw [hw8]; exact Bx.new _ _ _ rfl) rfl (by intro c hc; simp [BoolP.cB] at hc; subst hc; rfl))
          have own8 := Lib.hid (hown.out.below b8)
          have hb8 := Lib.hid (bt hb.out b8)
          have hn1 : Hid ((BoolP.cB L).length + (BoolP.cB [true]).length ≤ 1000000) := Lib.hid (by rw [BoolP.cB_length, BoolP.cB_length, hlenL.out]; simp; omega)
          have hvl : Hid ((BoolP.cB L).length = L.length) := Lib.hid (BoolP.cB_length L)
          have hB2 : Hid (w0.heap.size ≤ w8.heap.size) := Lib.hid hb8.out.size
          clear b8
          go_wp2_with (at_builtin; rw [← hw8]; (refine wpList_append_sl rfl (.tmp 39) (.tmp 41) 23 rfl BoolP.elB (by rfl) own8.out (by rfl) (by rfl) hsl.out (BoolP.whole [true]) (fun h => by cases h) hn1.out hB2.out ?_); intro v' w4 own1 grow1 _)
          have b4 : Below w0.heap.size w0 w4 := hb8.out.grown grow1 hb8.out.size (fun j hj => (own8.out.lt j hj).1)
          go_roundw
          case rel => exact ⟨k + 1, L ++ [true], by omega, by go_num, hsx.out hkp.out, by unfold OwnB; rw [BoolP.cB_append]; exact own1, b4⟩
          case measure => simp [intOf]; omega
        · have hkp' : ((k : Int) == (p : Int)) = false := beq_false_of_ne (by omega)
          replace hkp := Lib.hid hkp
          obtain ⟨w8, hw8⟩ : ∃ W, W = wr.alloc (.cells #[.bool y] 4) := ⟨_, rfl⟩
          have b8 : Below wr.heap.size wr w8 := by rw [hw8]; exact (Below.refl _ _).alloc (Nat.le_refl _) _
          have hsl := Lib.hid (show Sl w8 1 (some ⟨wr.heap.size, 0, none⟩) (BoolP.cB [y]) from bx_sl (T := 4) (vals := #[.bool y]) (by rw [hw8]; exact Bx.new _ _ _ rfl) rfl (by intro c hc; simp [BoolP.cB] at hc; subst hc; rfl))
          have own8 := Lib.hid (hown.out.below b8)
          have hb8 := Lib.hid (bt hb.out b8)
          have hn1 : Hid ((BoolP.cB L).length + (BoolP.cB [y]).length ≤ 1000000) := Lib.hid (by rw [BoolP.cB_length, BoolP.cB_length, hlenL.out]; simp; omega)
          have hvl : Hid ((BoolP.cB L).length = L.length) := Lib.hid (BoolP.cB_length L)
          have hB2 : Hid (w0.heap.size ≤ w8.heap.size) := Lib.hid hb8.out.size
          clear b8
          go_wp2_with (at_builtin; rw [← hw8]; (refine wpList_append_sl rfl (.tmp 39) (.tmp 41) 23 rfl BoolP.elB (by rfl) own8.out (by rfl) (by rfl) hsl.out (BoolP.whole [y]) (fun h => by cases h) hn1.out hB2.out ?_); intro v' w4 own1 grow1 _)
          have b4 : Below w0.heap.size w0 w4 := hb8.out.grown grow1 hb8.out.size (fun j hj => (own8.out.lt j hj).1)
          go_roundw
          case rel => exact ⟨k + 1, L ++ [y], by omega, by go_num, hsy.out hkp.out, by unfold OwnB; rw [BoolP.cB_append]; exact own1, b4⟩
          case measure => simp [intOf]; omega
      · obtain rfl : k = (t).self.ups.length := by omega
        obtain rfl : L = ((t).upAt p true).self.ups := by rw [hL]; unfold T.upAt; rw [List.take_of_length_le (by rw [List.length_set]; exact Nat.le_refl _)]
        clear hL
        have hrow := Lib.hid (rowB hown)
        have hfar := Lib.hid (own_far hown)
        have hbr := Lib.hid (show Below w.heap.size w wr from bt BB.out hb)
        have hlt9 := Lib.hid (show w0.heap.size ≤ wr.heap.size from Nat.le_trans (Nat.le_refl w0.heap.size) hb.size)
        replace hown := Lib.hid hown
        replace hb := Lib.hid hb
        have o_0 := Sr.out.c (i := 0) rfl
        have f_0 := Sr.out.f 0
        have o_1 := Sr.out.c (i := 1) rfl
        have f_1 := Sr.out.f 1
        have o_2 := Sr.out.c (i := 2) rfl
        have f_2 := Sr.out.f 2
        have o_3 := Sr.out.c (i := 3) rfl
        have f_3 := Sr.out.f 3
        have o_4 := Sr.out.c (i := 4) rfl
        have f_4 := Sr.out.f 4
        have o_5 := Sr.out.c (i := 5) rfl
        have f_5 := Sr.out.f 5
        have o_6 := Sr.out.c (i := 6) rfl
        have f_6 := Sr.out.f 6
        have zz := Sr.out.lt
        go_upto_region 12 with fail
        clear zz o_0 f_0 o_1 f_1 o_2 f_2 o_3 f_3 o_4 f_4 o_5 f_5 o_6 f_6
        obtain ⟨w9, hw9⟩ : ∃ W, W = wr.setCell ⟨w.heap.size, 2, none⟩ (.slice A3 ((t).upAt p true).self.ups.length c3) := ⟨_, rfl⟩
        rw [← hw9]
        have S9 := Lib.hid (show Bx w9 w.heap.size 29 #[.int .i64 t.self.id, .slice AC t.self.costs.length cC, .slice A3 ((t).upAt p true).self.ups.length c3, .slice AI t.self.infos.length cI, .slice AS t.states.length cS, .int .i64 t.mx, .int .i64 t.dl] by rw [hw9]; exact Sr.out.set 2 _)
        have X9 := Lib.hid (show Bx w9 (w.heap.size + 1) 29 #[.int .i64 0, .slice none 0 0, .slice none 0 0, .slice none 0 0, .slice none 0 0, .int .i64 0, .int .i64 0] by rw [hw9]; exact Xr.out.other (Nat.succ_ne_self _) _ _)
        have ss9 := Lib.hid (show Sets w.heap.size w.heap.size wr w9 by rw [hw9]; exact Sets.refl.one)
        have B9 := Lib.hid (show Below w.heap.size w w9 by rw [hw9]; exact hbr.out.setCell (Nat.le_refl _) _)
        have off9 := Lib.hid (show ∀ b, OffT b t AC (some ⟨bU, oU, none⟩) AI AS → b < w0.heap.size → OffT b ((t).upAt p true) AC A3 AI AS from fun b hs hb => ⟨(of0.out b hs hb).c, fun _ a ha => by have := hfar.out a ha; have := (Nat.le_refl w0.heap.size); omega, (of0.out b hs hb).n, (of0.out b hs hb).s⟩)
        have tr9 := Lib.hid (show TreeR w9 ((t).upAt p true) AC cC A3 c3 AI cI AS cS from ss9.out.tree ⟨⟨Tr.out.self.costs, hrow.out, Tr.out.self.infos⟩, Tr.out.sts⟩ (off9.out _ (hR0.out.off (Nat.le_refl _)) (by have := n0.out; omega)) (off9.out _ (hR0.out.off (Nat.le_refl _)) (by have := n0.out; omega)))
        have hlt10 := Lib.hid (show w0.heap.size ≤ w9.heap.size from Nat.le_trans hlt9.out (Nat.le_of_eq ss9.out.n.symm))
        have hst9 := Lib.hid (show Calls Try.prog 44 #[.agg #[.int .i64 t.self.id, .slice AC t.self.costs.length cC, .slice A3 ((t).upAt p true).self.ups.length c3, .slice AI t.self.infos.length cI, .slice AS t.states.length cS, .int .i64 t.mx, .int .i64 t.dl]] w9 (RetT w9 (fun b => OffT b ((t).upAt p true) AC A3 AI AS) ((t).upAt p true).settle (fun v => v)) from settle_to hpre9.out tr9.out)
        clear hw9
        have zz := S9.out.lt
        have o_0 := S9.out.c (i := 0) rfl
        have o_1 := S9.out.c (i := 1) rfl
        have o_2 := S9.out.c (i := 2) rfl
        have o_3 := S9.out.c (i := 3) rfl
        have o_4 := S9.out.c (i := 4) rfl
        have o_5 := S9.out.c (i := 5) rfl
        have o_6 := S9.out.c (i := 6) rfl
        go_wp2_with fail
        clear zz o_0 o_1 o_2 o_3 o_4 o_5 o_6
        go_at_call 44
        (with_reducible refine hst9.out.mono ?_)
        rintro e w5 ⟨AC5, cC5, AU5, cU5, AI5, cI5, AS5, cS5, rfl, tr5, hb5, of5⟩
        replace tr5 := Lib.hid tr5
        replace of5 := Lib.hid of5
        have B5 := Lib.hid (bt B9.out hb5)
        have X5 := Lib.hid (X9.out.below hb5)
        clear hb5
        have o_X_0 := X5.out.c (i := 0) rfl
        have f_0 := X5.out.f 0
        have o_X_1 := X5.out.c (i := 1) rfl
        have f_1 := X5.out.f 1
        have o_X_2 := X5.out.c (i := 2) rfl
        have f_2 := X5.out.f 2
        have o_X_3 := X5.out.c (i := 3) rfl
        have f_3 := X5.out.f 3
        have o_X_4 := X5.out.c (i := 4) rfl
        have f_4 := X5.out.f 4
        have o_X_5 := X5.out.c (i := 5) rfl
        have f_5 := X5.out.f 5
        have o_X_6 := X5.out.c (i := 6) rfl
        have f_6 := X5.out.f 6
        have zx := X5.out.lt
        go_wp2_with fail
        refine bodyPost_ret (v := tv ((t).upAt p true).settle AC5 cC5 AU5 cU5 AI5 cI5 AS5 cS5) (by simp [results, Try.results23, go_sem, o_X_0, o_X_1, o_X_2, o_X_3, o_X_4, o_X_5, o_X_6]) rfl ?_
        refine fin_r (c := 1) (n := w0.heap.size) (t' := ((t).upAt p true).settle) (wr := w5) (AC := AC5) (cC := cC5) (AU := AU5) (cU := cU5) (AI := AI5) (cI := cI5) (AS := AS5) (cS := cS5) (mk := fun v => v) ?hss B5.out (by have := n0.out; omega) rfl tr5.out (fun b hb => hR0.out.off hb) (fun b hs hb => of5.out b (by have := hlt10.out; omega) (off9.out b hs hb))
        case hss => repeat (first | with_reducible exact Sets.refl | with_reducible refine Sets.two ?_ | with_reducible refine Sets.one ?_)
  · have hbu : t.blankAt p up = t.know p N0 := by unfold T.blankAt; rw [hus, if_neg hb0]
    obtain rfl : ((t.know p N0).upAt p up).settle = lk := by rw [← hlk.out]; unfold T.link; rw [hbu]
    rw [hbu] at hpre
    have hpre9 := hpre
    clear hlk
    have hway : up = false ∨ (up = true ∧ us = false) := by cases up <;> cases us <;> simp at hb0 ⊢
    clear hpre hb0
    have o_I_0 := I.out.c (i := 0) rfl
    have o_I_1 := I.out.c (i := 1) rfl
    have o_I_2 := I.out.c (i := 2) rfl
    have o_I_3 := I.out.c (i := 3) rfl
    have o_I_4 := I.out.c (i := 4) rfl
    have o_I_5 := I.out.c (i := 5) rfl
    have o_I_6 := I.out.c (i := 6) rfl
    skip
    rcases hway with rfl | ⟨rfl, rfl⟩
    · go_wp2_with fail
      clear o_I_0 o_I_1 o_I_2 o_I_3 o_I_4 o_I_5 o_I_6
      clear qU hbU hus hbu
      go_at_call 48
      (with_reducible refine (know0_to hli I.out.r).mono ?_)
      rintro e w1 ⟨AC4, cC4, AU4, cU4, AI4, cI4, AS4, cS4, rfl, tr4, hb1, of4⟩
      have hsz4 := Lib.hid hb1.size
      have I_w1 := Lib.hid (I.out.below hb1)
      have X_w1 := Lib.hid (X.out.below hb1)
      have z0_w1 : w.heap.size < w1.heap.size := Nat.lt_of_lt_of_le z0 hb1.size
      have B_w1 := bt B0 hb1
      clear I X z0 B0 hb1
      replace tr4 := Lib.hid tr4
      replace of4 := Lib.hid of4
      have o_I_0 := I_w1.out.c (i := 0) rfl
      have o_I_1 := I_w1.out.c (i := 1) rfl
      have o_I_2 := I_w1.out.c (i := 2) rfl
      have o_I_3 := I_w1.out.c (i := 3) rfl
      have o_I_4 := I_w1.out.c (i := 4) rfl
      have o_I_5 := I_w1.out.c (i := 5) rfl
      have o_I_6 := I_w1.out.c (i := 6) rfl
      have p_I_0 := I_w1.out.f 0
      have p_I_1 := I_w1.out.f 1
      have p_I_2 := I_w1.out.f 2
      have p_I_3 := I_w1.out.f 3
      have p_I_4 := I_w1.out.f 4
      have p_I_5 := I_w1.out.f 5
      have p_I_6 := I_w1.out.f 6
      go_upto_region 3 with fail
      clear o_I_0 o_I_1 o_I_2 o_I_3 o_I_4 o_I_5 o_I_6 p_I_0 p_I_1 p_I_2 p_I_3 p_I_4 p_I_5 p_I_6
      obtain ⟨w6, hw6⟩ : ∃ W, W = set7 w1 w.heap.size (.int .i64 (t.know p N0).self.id) (.slice AC4 (t.know p N0).self.costs.length cC4) (.slice AU4 (t.know p N0).self.ups.length cU4) (.slice AI4 (t.know p N0).self.infos.length cI4) (.slice AS4 (t.know p N0).states.length cS4) (.int .i64 (t.know p N0).mx) (.int .i64 (t.know p N0).dl) := ⟨_, rfl⟩
      have S := Lib.hid (show Bx w6 w.heap.size 29 #[.int .i64 (t.know p N0).self.id, .slice AC4 (t.know p N0).self.costs.length cC4, .slice AU4 (t.know p N0).self.ups.length cU4, .slice AI4 (t.know p N0).self.infos.length cI4, .slice AS4 (t.know p N0).states.length cS4, .int .i64 (t.know p N0).mx, .int .i64 (t.know p N0).dl] by rw [hw6]; exact set7_bx I_w1.out.x)
      have X6 := Lib.hid (show Bx w6 (w.heap.size + 1) 29 #[.int .i64 0, .slice none 0 0, .slice none 0 0, .slice none 0 0, .slice none 0 0, .int .i64 0, .int .i64 0] by rw [hw6]; exact set7_oth X_w1.out (Nat.succ_ne_self _))
      have ss6 := Lib.hid (show Sets w.heap.size w.heap.size w1 w6 by rw [hw6]; exact set7_sets)
      have BB := Lib.hid (show Below w.heap.size w w6 by rw [hw6]; exact set7_bel B_w1 (Nat.le_refl _))
      have of0 := Lib.hid (show ∀ b, OffT b t AC (some ⟨bU, oU, none⟩) AI AS → b < w0.heap.size → OffT b (t.know p N0) AC4 AU4 AI4 AS4 from fun b h hb => of4.out b hb h)
      have T0' := Lib.hid (show TreeR w6 (t.know p N0) AC4 cC4 AU4 cU4 AI4 cI4 AS4 cS4 from ss6.out.tree tr4.out (of0.out _ (hR0.out.off (Nat.le_refl _)) (by have := n0.out; omega)) (of0.out _ (hR0.out.off (Nat.le_refl _)) (by have := n0.out; omega)))
      have le6 := Lib.hid (show w0.heap.size ≤ w6.heap.size from by have := ss6.out.n; have := hsz4.out; omega)
      unfold set7 at hw6
      rw [← hw6]
      clear hw6 B_w1 z0_w1
      obtain ⟨w2, hw2⟩ : ∃ W, W = w6.alloc (.cells #[] 4) := ⟨_, rfl⟩
      have b2 : Below w6.heap.size w6 w2 := by rw [hw2]; exact (Below.refl _ _).alloc (Nat.le_refl _) _
      have O2 := Lib.hid (show OwnB w2 w6.heap.size (.slice (some ⟨w6.heap.size, 0, none⟩) 0 0) [] by rw [hw2]; exact own_lit0 w6 _ _ _ (Nat.le_refl _))
      have B2 := Lib.hid b2
      have S2 := Lib.hid (S.out.below b2)
      have hlu9 : ((t.know p N0)).self.ups.length ≤ 8 := by exact hlu
      have z2 := S2.out.lt
      have o_0 := S.out.c (i := 0) rfl
      have s_0 := S2.out.c (i := 0) rfl
      have o_1 := S.out.c (i := 1) rfl
      have s_1 := S2.out.c (i := 1) rfl
      have o_2 := S.out.c (i := 2) rfl
      have s_2 := S2.out.c (i := 2) rfl
      have o_3 := S.out.c (i := 3) rfl
      have s_3 := S2.out.c (i := 3) rfl
      have o_4 := S.out.c (i := 4) rfl
      have s_4 := S2.out.c (i := 4) rfl
      have o_5 := S.out.c (i := 5) rfl
      have s_5 := S2.out.c (i := 5) rfl
      have o_6 := S.out.c (i := 6) rfl
      have s_6 := S2.out.c (i := 6) rfl
      have zz := S.out.lt
      go_upto_region 4 with fail
      rw [← hw2]
      clear hw2 b2 zz o_0 o_1 o_2 o_3 o_4 o_5 o_6
      go_wp2_with fail
      clear z2 s_0 s_1 s_2 s_3 s_4 s_5 s_6
      go_loopw [7, 30] (fun v3 i wr => ∃ (k : Nat) (L : List Bool), k ≤ ((t.know p N0)).self.ups.length ∧ i = .int .i64 k ∧ L = (((t.know p N0)).self.ups.set p false).take k ∧ OwnB wr w6.heap.size v3 L ∧ Below w6.heap.size w6 wr) (fun _ i _ => ((t.know p N0)).self.ups.length - (intOf i).toNat)
      case atStart => exact ⟨0, [], by omega, rfl, by simp, O2.out, B2.out⟩
      case round =>
        clear O2 B2 S2
        obtain ⟨k, L, hk, rfl, hL, hown, hb⟩ := hrel
        obtain ⟨A3, c3, hv3⟩ := own_formB hown
        subst hv3
        have Sr := Lib.hid (S.out.below hb)
        have Xr := Lib.hid (X6.out.below hb)
        have Tr := Lib.hid (T0'.out.below hb)
        by_cases hkn : k < ((t.know p N0)).self.ups.length
        · obtain ⟨bV, oV, hAU, hbV, q0⟩ := BoolP.SlB.at_ Tr.out.self.ups.sl (up_at (s := ((t.know p N0)).self) (p := k) hkn)
          obtain ⟨y, hy⟩ : ∃ y, ((t.know p N0)).self.up k = y := ⟨_, rfl⟩
          rw [hy] at q0
          have hgi : ((t.know p N0)).self.ups[k]? = some y := by rw [← hy]; exact up_at hkn
          have hlenL := Lib.hid (show L.length = k by rw [hL, List.length_take, List.length_set]; omega)
          have hkl : (k : Int) < (((t.know p N0)).self.ups.length : Int) := by omega
          have hsy : k ≠ p → L ++ [y] = (((t.know p N0)).self.ups.set p false).take (k + 1) := fun h => by rw [List.take_add_one, List.getElem?_set_ne (Ne.symm h), hgi, hL]; rfl
          have hsx : k = p → L ++ [false] = (((t.know p N0)).self.ups.set p false).take (k + 1) := fun h => by subst h; rw [List.take_add_one, List.getElem?_set_self hkn, hL]; rfl
          replace hsy := Lib.hid hsy
          replace hsx := Lib.hid hsx
          replace hL := Lib.hid hL
          replace hy := Lib.hid hy
          replace hgi := Lib.hid hgi
          replace hown := Lib.hid hown
          replace hb := Lib.hid hb
          subst hAU
          by_cases hkp : k = p
          · have hkp' : ((k : Int) == (p : Int)) = true := by rw [hkp]; exact beq_self_eq_true _
            replace hkp := Lib.hid hkp
            obtain ⟨w8, hw8⟩ : ∃ W, W = wr.alloc (.cells #[.bool false] 4) := ⟨_, rfl⟩
            have b8 : Below wr.heap.size wr w8 := by rw [hw8]; exact (Below.refl _ _).alloc (Nat.le_refl _) _
            have hsl := Lib.hid (show Sl w8 1 (some ⟨wr.heap.size, 0, none⟩) (BoolP.cB [false]) from bx_sl (T := 4) (vals := #[.bool false]) (by rw [hw8]; exact Bx.new _ _ _ rfl) rfl (by intro c hc; simp [BoolP.cB] at hc; subst hc; rfl))
            have own8 := Lib.hid (hown.out.below b8)
            have hb8 := Lib.hid (bt hb.out b8)
            have hn1 : Hid ((BoolP.cB L).length + (BoolP.cB [false]).length ≤ 1000000) := Lib.hid (by rw [BoolP.cB_length, BoolP.cB_length, hlenL.out]; simp; omega)
            have hvl : Hid ((BoolP.cB L).length = L.length) := Lib.hid (BoolP.cB_length L)
            have hB2 : Hid (w6.heap.size ≤ w8.heap.size) := Lib.hid hb8.out.size
            clear b8
            go_wp2_with (at_builtin; rw [← hw8]; (refine wpList_append_sl rfl (.tmp 39) (.tmp 41) 23 rfl BoolP.elB (by rfl) own8.out (by rfl) (by rfl) hsl.out (BoolP.whole [false]) (fun h => by cases h) hn1.out hB2.out ?_); intro v' w4 own1 grow1 _)
            have b4 : Below w6.heap.size w6 w4 := hb8.out.grown grow1 hb8.out.size (fun j hj => (own8.out.lt j hj).1)
            go_roundw
            case rel => exact ⟨k + 1, L ++ [false], by omega, by go_num, hsx.out hkp.out, by unfold OwnB; rw [BoolP.cB_append]; exact own1, b4⟩
            case measure => simp [intOf]; omega
          · have hkp' : ((k : Int) == (p : Int)) = false := beq_false_of_ne (by omega)
            replace hkp := Lib.hid hkp
            obtain ⟨w8, hw8⟩ : ∃ W, W = wr.alloc (.cells #[.bool y] 4) := ⟨_, rfl⟩
            have b8 : Below wr.heap.size wr w8 := by rw [hw8]; exact (Below.refl _ _).alloc (Nat.le_refl _) _
            have hsl := Lib.hid (show Sl w8 1 (some ⟨wr.heap.size, 0, none⟩) (BoolP.cB [y]) from bx_sl (T := 4) (vals := #[.bool y]) (by rw [hw8]; exact Bx.new _ _ _ rfl) rfl (by intro c hc; simp [BoolP.cB] at hc; subst hc; rfl))
            have own8 := Lib.hid (hown.out.below b8)
            have hb8 := Lib.hid (bt hb.out b8)
            have hn1 : Hid ((BoolP.cB L).length + (BoolP.cB [y]).length ≤ 1000000) := Lib.hid (by rw [BoolP.cB_length, BoolP.cB_length, hlenL.out]; simp; omega)
            have hvl : Hid ((BoolP.cB L).length = L.length) := Lib.hid (BoolP.cB_length L)
            have hB2 : Hid (w6.heap.size ≤ w8.heap.size) := Lib.hid hb8.out.size
            clear b8
            go_wp2_with (at_builtin; rw [← hw8]; (refine wpList_append_sl rfl (.tmp 39) (.tmp 41) 23 rfl BoolP.elB (by rfl) own8.out (by rfl) (by rfl) hsl.out (BoolP.whole [y]) (fun h => by cases h) hn1.out hB2.out ?_); intro v' w4 own1 grow1 _)
            have b4 : Below w6.heap.size w6 w4 := hb8.out.grown grow1 hb8.out.size (fun j hj => (own8.out.lt j hj).1)
            go_roundw
            case rel => exact ⟨k + 1, L ++ [y], by omega, by go_num, hsy.out hkp.out, by unfold OwnB; rw [BoolP.cB_append]; exact own1, b4⟩
            case measure => simp [intOf]; omega
        · obtain rfl : k = ((t.know p N0)).self.ups.length := by omega
          obtain rfl : L = (((t.know p N0)).upAt p false).self.ups := by rw [hL]; unfold T.upAt; rw [List.take_of_length_le (by rw [List.length_set]; exact Nat.le_refl _)]
          clear hL
          have hrow := Lib.hid (rowB hown)
          have hfar := Lib.hid (own_far hown)
          have hbr := Lib.hid (show Below w.heap.size w wr from bt BB.out hb)
          have hlt9 := Lib.hid (show w0.heap.size ≤ wr.heap.size from Nat.le_trans le6.out hb.size)
          replace hown := Lib.hid hown
          replace hb := Lib.hid hb
          have o_0 := Sr.out.c (i := 0) rfl
          have f_0 := Sr.out.f 0
          have o_1 := Sr.out.c (i := 1) rfl
          have f_1 := Sr.out.f 1
          have o_2 := Sr.out.c (i := 2) rfl
          have f_2 := Sr.out.f 2
          have o_3 := Sr.out.c (i := 3) rfl
          have f_3 := Sr.out.f 3
          have o_4 := Sr.out.c (i := 4) rfl
          have f_4 := Sr.out.f 4
          have o_5 := Sr.out.c (i := 5) rfl
          have f_5 := Sr.out.f 5
          have o_6 := Sr.out.c (i := 6) rfl
          have f_6 := Sr.out.f 6
          have zz := Sr.out.lt
          go_upto_region 12 with fail
          clear zz o_0 f_0 o_1 f_1 o_2 f_2 o_3 f_3 o_4 f_4 o_5 f_5 o_6 f_6
          obtain ⟨w9, hw9⟩ : ∃ W, W = wr.setCell ⟨w.heap.size, 2, none⟩ (.slice A3 (((t.know p N0)).upAt p false).self.ups.length c3) := ⟨_, rfl⟩
          rw [← hw9]
          have S9 := Lib.hid (show Bx w9 w.heap.size 29 #[.int .i64 (t.know p N0).self.id, .slice AC4 (t.know p N0).self.costs.length cC4, .slice A3 (((t.know p N0)).upAt p false).self.ups.length c3, .slice AI4 (t.know p N0).self.infos.length cI4, .slice AS4 (t.know p N0).states.length cS4, .int .i64 (t.know p N0).mx, .int .i64 (t.know p N0).dl] by rw [hw9]; exact Sr.out.set 2 _)
          have X9 := Lib.hid (show Bx w9 (w.heap.size + 1) 29 #[.int .i64 0, .slice none 0 0, .slice none 0 0, .slice none 0 0, .slice none 0 0, .int .i64 0, .int .i64 0] by rw [hw9]; exact Xr.out.other (Nat.succ_ne_self _) _ _)
          have ss9 := Lib.hid (show Sets w.heap.size w.heap.size wr w9 by rw [hw9]; exact Sets.refl.one)
          have B9 := Lib.hid (show Below w.heap.size w w9 by rw [hw9]; exact hbr.out.setCell (Nat.le_refl _) _)
          have off9 := Lib.hid (show ∀ b, OffT b t AC (some ⟨bU, oU, none⟩) AI AS → b < w0.heap.size → OffT b (((t.know p N0)).upAt p false) AC4 A3 AI4 AS4 from fun b hs hb => ⟨(of0.out b hs hb).c, fun _ a ha => by have := hfar.out a ha; have := le6.out; omega, (of0.out b hs hb).n, (of0.out b hs hb).s⟩)
          have tr9 := Lib.hid (show TreeR w9 (((t.know p N0)).upAt p false) AC4 cC4 A3 c3 AI4 cI4 AS4 cS4 from ss9.out.tree ⟨⟨Tr.out.self.costs, hrow.out, Tr.out.self.infos⟩, Tr.out.sts⟩ (off9.out _ (hR0.out.off (Nat.le_refl _)) (by have := n0.out; omega)) (off9.out _ (hR0.out.off (Nat.le_refl _)) (by have := n0.out; omega)))
          have hlt10 := Lib.hid (show w0.heap.size ≤ w9.heap.size from Nat.le_trans hlt9.out (Nat.le_of_eq ss9.out.n.symm))
          have hst9 := Lib.hid (show Calls Try.prog 44 #[.agg #[.int .i64 (t.know p N0).self.id, .slice AC4 (t.know p N0).self.costs.length cC4, .slice A3 (((t.know p N0)).upAt p false).self.ups.length c3, .slice AI4 (t.know p N0).self.infos.length cI4, .slice AS4 (t.know p N0).states.length cS4, .int .i64 (t.know p N0).mx, .int .i64 (t.know p N0).dl]] w9 (RetT w9 (fun b => OffT b (((t.know p N0)).upAt p false) AC4 A3 AI4 AS4) (((t.know p N0)).upAt p false).settle (fun v => v)) from settle_to hpre9.out tr9.out)
          clear hw9
          have zz := S9.out.lt
          have o_0 := S9.out.c (i := 0) rfl
          have o_1 := S9.out.c (i := 1) rfl
          have o_2 := S9.out.c (i := 2) rfl
          have o_3 := S9.out.c (i := 3) rfl
          have o_4 := S9.out.c (i := 4) rfl
          have o_5 := S9.out.c (i := 5) rfl
          have o_6 := S9.out.c (i := 6) rfl
          go_wp2_with fail
          clear zz o_0 o_1 o_2 o_3 o_4 o_5 o_6
          go_at_call 44
          (with_reducible refine hst9.out.mono ?_)
          rintro e w5 ⟨AC5, cC5, AU5, cU5, AI5, cI5, AS5, cS5, rfl, tr5, hb5, of5⟩
          replace tr5 := Lib.hid tr5
          replace of5 := Lib.hid of5
          have B5 := Lib.hid (bt B9.out hb5)
          have X5 := Lib.hid (X9.out.below hb5)
          clear hb5
          have o_X_0 := X5.out.c (i := 0) rfl
          have f_0 := X5.out.f 0
          have o_X_1 := X5.out.c (i := 1) rfl
          have f_1 := X5.out.f 1
          have o_X_2 := X5.out.c (i := 2) rfl
          have f_2 := X5.out.f 2
          have o_X_3 := X5.out.c (i := 3) rfl
          have f_3 := X5.out.f 3
          have o_X_4 := X5.out.c (i := 4) rfl
          have f_4 := X5.out.f 4
          have o_X_5 := X5.out.c (i := 5) rfl
          have f_5 := X5.out.f 5
          have o_X_6 := X5.out.c (i := 6) rfl
          have f_6 := X5.out.f 6
          have zx := X5.out.lt
          go_wp2_with fail
          refine bodyPost_ret (v := tv (((t.know p N0)).upAt p false).settle AC5 cC5 AU5 cU5 AI5 cI5 AS5 cS5) (by simp [results, Try.results23, go_sem, o_X_0, o_X_1, o_X_2, o_X_3, o_X_4, o_X_5, o_X_6]) rfl ?_
          refine fin_r (c := 1) (n := w0.heap.size) (t' := (((t.know p N0)).upAt p false).settle) (wr := w5) (AC := AC5) (cC := cC5) (AU := AU5) (cU := cU5) (AI := AI5) (cI := cI5) (AS := AS5) (cS := cS5) (mk := fun v => v) ?hss B5.out (by have := n0.out; omega) rfl tr5.out (fun b hb => hR0.out.off hb) (fun b hs hb => of5.out b (by have := hlt10.out; omega) (off9.out b hs hb))
          case hss => repeat (first | with_reducible exact Sets.refl | with_reducible refine Sets.two ?_ | with_reducible refine Sets.one ?_)
    · go_wp2_with fail
      clear o_I_0 o_I_1 o_I_2 o_I_3 o_I_4 o_I_5 o_I_6
      clear qU hbU hus hbu
      go_at_call 48
      (with_reducible refine (know0_to hli I.out.r).mono ?_)
      rintro e w1 ⟨AC4, cC4, AU4, cU4, AI4, cI4, AS4, cS4, rfl, tr4, hb1, of4⟩
      have hsz4 := Lib.hid hb1.size
      have I_w1 := Lib.hid (I.out.below hb1)
      have X_w1 := Lib.hid (X.out.below hb1)
      have z0_w1 : w.heap.size < w1.heap.size := Nat.lt_of_lt_of_le z0 hb1.size
      have B_w1 := bt B0 hb1
      clear I X z0 B0 hb1
      replace tr4 := Lib.hid tr4
      replace of4 := Lib.hid of4
      have o_I_0 := I_w1.out.c (i := 0) rfl
      have o_I_1 := I_w1.out.c (i := 1) rfl
      have o_I_2 := I_w1.out.c (i := 2) rfl
      have o_I_3 := I_w1.out.c (i := 3) rfl
      have o_I_4 := I_w1.out.c (i := 4) rfl
      have o_I_5 := I_w1.out.c (i := 5) rfl
      have o_I_6 := I_w1.out.c (i := 6) rfl
      have p_I_0 := I_w1.out.f 0
      have p_I_1 := I_w1.out.f 1
      have p_I_2 := I_w1.out.f 2
      have p_I_3 := I_w1.out.f 3
      have p_I_4 := I_w1.out.f 4
      have p_I_5 := I_w1.out.f 5
      have p_I_6 := I_w1.out.f 6
      go_upto_region 3 with fail
      clear o_I_0 o_I_1 o_I_2 o_I_3 o_I_4 o_I_5 o_I_6 p_I_0 p_I_1 p_I_2 p_I_3 p_I_4 p_I_5 p_I_6
      obtain ⟨w6, hw6⟩ : ∃ W, W = set7 w1 w.heap.size (.int .i64 (t.know p N0).self.id) (.slice AC4 (t.know p N0).self.costs.length cC4) (.slice AU4 (t.know p N0).self.ups.length cU4) (.slice AI4 (t.know p N0).self.infos.length cI4) (.slice AS4 (t.know p N0).states.length cS4) (.int .i64 (t.know p N0).mx) (.int .i64 (t.know p N0).dl) := ⟨_, rfl⟩
      have S := Lib.hid (show Bx w6 w.heap.size 29 #[.int .i64 (t.know p N0).self.id, .slice AC4 (t.know p N0).self.costs.length cC4, .slice AU4 (t.know p N0).self.ups.length cU4, .slice AI4 (t.know p N0).self.infos.length cI4, .slice AS4 (t.know p N0).states.length cS4, .int .i64 (t.know p N0).mx, .int .i64 (t.know p N0).dl] by rw [hw6]; exact set7_bx I_w1.out.x)
      have X6 := Lib.hid (show Bx w6 (w.heap.size + 1) 29 #[.int .i64 0, .slice none 0 0, .slice none 0 0, .slice none 0 0, .slice none 0 0, .int .i64 0, .int .i64 0] by rw [hw6]; exact set7_oth X_w1.out (Nat.succ_ne_self _))
      have ss6 := Lib.hid (show Sets w.heap.size w.heap.size w1 w6 by rw [hw6]; exact set7_sets)
      have BB := Lib.hid (show Below w.heap.size w w6 by rw [hw6]; exact set7_bel B_w1 (Nat.le_refl _))
      have of0 := Lib.hid (show ∀ b, OffT b t AC (some ⟨bU, oU, none⟩) AI AS → b < w0.heap.size → OffT b (t.know p N0) AC4 AU4 AI4 AS4 from fun b h hb => of4.out b hb h)
      have T0' := Lib.hid (show TreeR w6 (t.know p N0) AC4 cC4 AU4 cU4 AI4 cI4 AS4 cS4 from ss6.out.tree tr4.out (of0.out _ (hR0.out.off (Nat.le_refl _)) (by have := n0.out; omega)) (of0.out _ (hR0.out.off (Nat.le_refl _)) (by have := n0.out; omega)))
      have le6 := Lib.hid (show w0.heap.size ≤ w6.heap.size from by have := ss6.out.n; have := hsz4.out; omega)
      unfold set7 at hw6
      rw [← hw6]
      clear hw6 B_w1 z0_w1
      obtain ⟨w2, hw2⟩ : ∃ W, W = w6.alloc (.cells #[] 4) := ⟨_, rfl⟩
      have b2 : Below w6.heap.size w6 w2 := by rw [hw2]; exact (Below.refl _ _).alloc (Nat.le_refl _) _
      have O2 := Lib.hid (show OwnB w2 w6.heap.size (.slice (some ⟨w6.heap.size, 0, none⟩) 0 0) [] by rw [hw2]; exact own_lit0 w6 _ _ _ (Nat.le_refl _))
      have B2 := Lib.hid b2
      have S2 := Lib.hid (S.out.below b2)
      have hlu9 : ((t.know p N0)).self.ups.length ≤ 8 := by exact hlu
      have z2 := S2.out.lt
      have o_0 := S.out.c (i := 0) rfl
      have s_0 := S2.out.c (i := 0) rfl
      have o_1 := S.out.c (i := 1) rfl
      have s_1 := S2.out.c (i := 1) rfl
      have o_2 := S.out.c (i := 2) rfl
      have s_2 := S2.out.c (i := 2) rfl
      have o_3 := S.out.c (i := 3) rfl
      have s_3 := S2.out.c (i := 3) rfl
      have o_4 := S.out.c (i := 4) rfl
      have s_4 := S2.out.c (i := 4) rfl
      have o_5 := S.out.c (i := 5) rfl
      have s_5 := S2.out.c (i := 5) rfl
      have o_6 := S.out.c (i := 6) rfl
      have s_6 := S2.out.c (i := 6) rfl
      have zz := S.out.lt
      go_upto_region 4 with fail
      rw [← hw2]
      clear hw2 b2 zz o_0 o_1 o_2 o_3 o_4 o_5 o_6
      go_wp2_with fail
      clear z2 s_0 s_1 s_2 s_3 s_4 s_5 s_6
      go_loopw [7, 30] (fun v3 i wr => ∃ (k : Nat) (L : List Bool), k ≤ ((t.know p N0)).self.ups.length ∧ i = .int .i64 k ∧ L = (((t.know p N0)).self.ups.set p true).take k ∧ OwnB wr w6.heap.size v3 L ∧ Below w6.heap.size w6 wr) (fun _ i _ => ((t.know p N0)).self.ups.length - (intOf i).toNat)
      case atStart => exact ⟨0, [], by omega, rfl, by simp, O2.out, B2.out⟩
      case round =>
        clear O2 B2 S2
        obtain ⟨k, L, hk, rfl, hL, hown, hb⟩ := hrel
        obtain ⟨A3, c3, hv3⟩ := own_formB hown
        subst hv3
        have Sr := Lib.hid (S.out.below hb)
        have Xr := Lib.hid (X6.out.below hb)
        have Tr := Lib.hid (T0'.out.below hb)
        by_cases hkn : k < ((t.know p N0)).self.ups.length
        · obtain ⟨bV, oV, hAU, hbV, q0⟩ := BoolP.SlB.at_ Tr.out.self.ups.sl (up_at (s := ((t.know p N0)).self) (p := k) hkn)
          obtain ⟨y, hy⟩ : ∃ y, ((t.know p N0)).self.up k = y := ⟨_, rfl⟩
          rw [hy] at q0
          have hgi : ((t.know p N0)).self.ups[k]? = some y := by rw [← hy]; exact up_at hkn
          have hlenL := Lib.hid (show L.length = k by rw [hL, List.length_take, List.length_set]; omega)
          have hkl : (k : Int) < (((t.know p N0)).self.ups.length : Int) := by omega
          have hsy : k ≠ p → L ++ [y] = (((t.know p N0)).self.ups.set p true).take (k + 1) := fun h => by rw [List.take_add_one, List.getElem?_set_ne (Ne.symm h), hgi, hL]; rfl
          have hsx : k = p → L ++ [true] = (((t.know p N0)).self.ups.set p true).take (k + 1) := fun h => by subst h; rw [List.take_add_one, List.getElem?_set_self hkn, hL]; rfl
          replace hsy := Lib.hid hsy
          replace hsx := Lib.hid hsx
          replace hL := Lib.hid hL
          replace hy := Lib.hid hy
          replace hgi := Lib.hid hgi
          replace hown := Lib.hid hown
          replace hb := Lib.hid hb
          subst hAU
          by_cases hkp : k = p
          · have hkp' : ((k : Int) == (p : Int)) = true := by rw [hkp]; exact beq_self_eq_true _
            replace hkp := Lib.hid hkp
            obtain ⟨w8, hw8⟩ : ∃ W, W = wr.alloc (.cells #[.bool true] 4) := ⟨_, rfl⟩
            have b8 : Below wr.heap.size wr w8 := by rw [hw8]; exact (Below.refl _ _).alloc (Nat.le_refl _) _
            have hsl := Lib.hid (show Sl w8 1 (some ⟨wr.heap.size, 0, none⟩) (BoolP.cB [true]) from bx_sl (T := 4) (vals := #[.bool true]) (by rw [hw8]; exact Bx.new _ _ _ rfl) rfl (by intro c hc; simp [BoolP.cB] at hc; subst hc; rfl))
            have own8 := Lib.hid (hown.out.below b8)
            have hb8 := Lib.hid (bt hb.out b8)
            have hn1 : Hid ((BoolP.cB L).length + (BoolP.cB [true]).length ≤ 1000000) := Lib.hid (by rw [BoolP.cB_length, BoolP.cB_length, hlenL.out]; simp; omega)
            have hvl : Hid ((BoolP.cB L).length = L.length) := Lib.hid (BoolP.cB_length L)
            have hB2 : Hid (w6.heap.size ≤ w8.heap.size) := Lib.hid hb8.out.size
            clear b8
            go_wp2_with (at_builtin; rw [← hw8]; (refine wpList_append_sl rfl (.tmp 39) (.tmp 41) 23 rfl BoolP.elB (by rfl) own8.out (by rfl) (by rfl) hsl.out (BoolP.whole [true]) (fun h => by cases h) hn1.out hB2.out ?_); intro v' w4 own1 grow1 _)
            have b4 : Below w6.heap.size w6 w4 := hb8.out.grown grow1 hb8.out.size (fun j hj => (own8.out.lt j hj).1)
            go_roundw
            case rel => exact ⟨k + 1, L ++ [true], by omega, by go_num, hsx.out hkp.out, by unfold OwnB; rw [BoolP.cB_append]; exact own1, b4⟩
            case measure => simp [intOf]; omega
          · have hkp' : ((k : Int) == (p : Int)) = false := beq_false_of_ne (by omega)
            replace hkp := Lib.hid hkp
            obtain ⟨w8, hw8⟩ : ∃ W, W = wr.alloc (.cells #[.bool y] 4) := ⟨_, rfl⟩
            have b8 : Below wr.heap.size wr w8 := by rw [hw8]; exact (Below.refl _ _).alloc (Nat.le_refl _) _
            have hsl := Lib.hid (show Sl w8 1 (some ⟨wr.heap.size, 0, none⟩) (BoolP.cB [y]) from bx_sl (T := 4) (vals := #[.bool y]) (by rw [hw8]; exact Bx.new _ _ _ rfl) rfl (by intro c hc; simp [BoolP.cB] at hc; subst hc; rfl))
            have own8 := Lib.hid (hown.out.below b8)
            have hb8 := Lib.hid (bt hb.out b8)
            have hn1 : Hid ((BoolP.cB L).length + (BoolP.cB [y]).length ≤ 1000000) := Lib.hid (by rw [BoolP.cB_length, BoolP.cB_length, hlenL.out]; simp; omega)
            have hvl : Hid ((BoolP.cB L).length = L.length) := Lib.hid (BoolP.cB_length L)
            have hB2 : Hid (w6.heap.size ≤ w8.heap.size) := Lib.hid hb8.out.size
            clear b8
            go_wp2_with (at_builtin; rw [← hw8]; (refine wpList_append_sl rfl (.tmp 39) (.tmp 41) 23 rfl BoolP.elB (by rfl) own8.out (by rfl) (by rfl) hsl.out (BoolP.whole [y]) (fun h => by cases h) hn1.out hB2.out ?_); intro v' w4 own1 grow1 _)
            have b4 : Below w6.heap.size w6 w4 := hb8.out.grown grow1 hb8.out.size (fun j hj => (own8.out.lt j hj).1)
            go_roundw
            case rel => exact ⟨k + 1, L ++ [y], by omega, by go_num, hsy.out hkp.out, by unfold OwnB; rw [BoolP.cB_append]; exact own1, b4⟩
            case measure => simp [intOf]; omega
        · obtain rfl : k = ((t.know p N0)).self.ups.length := by omega
          obtain rfl : L = (((t.know p N0)).upAt p true).self.ups := by rw [hL]; unfold T.upAt; rw [List.take_of_length_le (by rw [List.length_set]; exact Nat.le_refl _)]
          clear hL
          have hrow := Lib.hid (rowB hown)
          have hfar := Lib.hid (own_far hown)
          have hbr := Lib.hid (show Below w.heap.size w wr from bt BB.out hb)
          have hlt9 := Lib.hid (show w0.heap.size ≤ wr.heap.size from Nat.le_trans le6.out hb.size)
          replace hown := Lib.hid hown
          replace hb := Lib.hid hb
          have o_0 := Sr.out.c (i := 0) rfl
          have f_0 := Sr.out.f 0
          have o_1 := Sr.out.c (i := 1) rfl
          have f_1 := Sr.out.f 1
          have o_2 := Sr.out.c (i := 2) rfl
          have f_2 := Sr.out.f 2
          have o_3 := Sr.out.c (i := 3) rfl
          have f_3 := Sr.out.f 3
          have o_4 := Sr.out.c (i := 4) rfl
          have f_4 := Sr.out.f 4
          have o_5 := Sr.out.c (i := 5) rfl
          have f_5 := Sr.out.f 5
          have o_6 := Sr.out.c (i := 6) rfl
          have f_6 := Sr.out.f 6
          have zz := Sr.out.lt
          go_upto_region 12 with fail
          clear zz o_0 f_0 o_1 f_1 o_2 f_2 o_3 f_3 o_4 f_4 o_5 f_5 o_6 f_6
          obtain ⟨w9, hw9⟩ : ∃ W, W = wr.setCell ⟨w.heap.size, 2, none⟩ (.slice A3 (((t.know p N0)).upAt p true).self.ups.length c3) := ⟨_, rfl⟩
          rw [← hw9]
          have S9 := Lib.hid (show Bx w9 w.heap.size 29 #[.int .i64 (t.know p N0).self.id, .slice AC4 (t.know p N0).self.costs.length cC4, .slice A3 (((t.know p N0)).upAt p true).self.ups.length c3, .slice AI4 (t.know p N0).self.infos.length cI4, .slice AS4 (t.know p N0).states.length cS4, .int .i64 (t.know p N0).mx, .int .i64 (t.know p N0).dl] by rw [hw9]; exact Sr.out.set 2 _)
          have X9 := Lib.hid (show Bx w9 (w.heap.size + 1) 29 #[.int .i64 0, .slice none 0 0, .slice none 0 0, .slice none 0 0, .slice none 0 0, .int .i64 0, .int .i64 0] by rw [hw9]; exact Xr.out.other (Nat.succ_ne_self _) _ _)
          have ss9 := Lib.hid (show Sets w.heap.size w.heap.size wr w9 by rw [hw9]; exact Sets.refl.one)
          have B9 := Lib.hid (show Below w.heap.size w w9 by rw [hw9]; exact hbr.out.setCell (Nat.le_refl _) _)
          have off9 := Lib.hid (show ∀ b, OffT b t AC (some ⟨bU, oU, none⟩) AI AS → b < w0.heap.size → OffT b (((t.know p N0)).upAt p true) AC4 A3 AI4 AS4 from fun b hs hb => ⟨(of0.out b hs hb).c, fun _ a ha => by have := hfar.out a ha; have := le6.out; omega, (of0.out b hs hb).n, (of0.out b hs hb).s⟩)
          have tr9 := Lib.hid (show TreeR w9 (((t.know p N0)).upAt p true) AC4 cC4 A3 c3 AI4 cI4 AS4 cS4 from ss9.out.tree ⟨⟨Tr.out.self.costs, hrow.out, Tr.out.self.infos⟩, Tr.out.sts⟩ (off9.out _ (hR0.out.off (Nat.le_refl _)) (by have := n0.out; omega)) (off9.out _ (hR0.out.off (Nat.le_refl _)) (by have := n0.out; omega)))
          have hlt10 := Lib.hid (show w0.heap.size ≤ w9.heap.size from Nat.le_trans hlt9.out (Nat.le_of_eq ss9.out.n.symm))
          have hst9 := Lib.hid (show Calls Try.prog 44 #[.agg #[.int .i64 (t.know p N0).self.id, .slice AC4 (t.know p N0).self.costs.length cC4, .slice A3 (((t.know p N0)).upAt p true).self.ups.length c3, .slice AI4 (t.know p N0).self.infos.length cI4, .slice AS4 (t.know p N0).states.length cS4, .int .i64 (t.know p N0).mx, .int .i64 (t.know p N0).dl]] w9 (RetT w9 (fun b => OffT b (((t.know p N0)).upAt p true) AC4 A3 AI4 AS4) (((t.know p N0)).upAt p true).settle (fun v => v)) from settle_to hpre9.out tr9.out)
          clear hw9
          have zz := S9.out.lt
          have o_0 := S9.out.c (i := 0) rfl
          have o_1 := S9.out.c (i := 1) rfl
          have o_2 := S9.out.c (i := 2) rfl
          have o_3 := S9.out.c (i := 3) rfl
          have o_4 := S9.out.c (i := 4) rfl
          have o_5 := S9.out.c (i := 5) rfl
          have o_6 := S9.out.c (i := 6) rfl
          go_wp2_with fail
          clear zz o_0 o_1 o_2 o_3 o_4 o_5 o_6
          go_at_call 44
          (with_reducible refine hst9.out.mono ?_)
          rintro e w5 ⟨AC5, cC5, AU5, cU5, AI5, cI5, AS5, cS5, rfl, tr5, hb5, of5⟩
          replace tr5 := Lib.hid tr5
          replace of5 := Lib.hid of5
          have B5 := Lib.hid (bt B9.out hb5)
          have X5 := Lib.hid (X9.out.below hb5)
          clear hb5
          have o_X_0 := X5.out.c (i := 0) rfl
          have f_0 := X5.out.f 0
          have o_X_1 := X5.out.c (i := 1) rfl
          have f_1 := X5.out.f 1
          have o_X_2 := X5.out.c (i := 2) rfl
          have f_2 := X5.out.f 2
          have o_X_3 := X5.out.c (i := 3) rfl
          have f_3 := X5.out.f 3
          have o_X_4 := X5.out.c (i := 4) rfl
          have f_4 := X5.out.f 4
          have o_X_5 := X5.out.c (i := 5) rfl
          have f_5 := X5.out.f 5
          have o_X_6 := X5.out.c (i := 6) rfl
          have f_6 := X5.out.f 6
          have zx := X5.out.lt
          go_wp2_with fail
          refine bodyPost_ret (v := tv (((t.know p N0)).upAt p true).settle AC5 cC5 AU5 cU5 AI5 cI5 AS5 cS5) (by simp [results, Try.results23, go_sem, o_X_0, o_X_1, o_X_2, o_X_3, o_X_4, o_X_5, o_X_6]) rfl ?_
          refine fin_r (c := 1) (n := w0.heap.size) (t' := (((t.know p N0)).upAt p true).settle) (wr := w5) (AC := AC5) (cC := cC5) (AU := AU5) (cU := cU5) (AI := AI5) (cI := cI5) (AS := AS5) (cS := cS5) (mk := fun v => v) ?hss B5.out (by have := n0.out; omega) rfl tr5.out (fun b hb => hR0.out.off hb) (fun b hs hb => of5.out b (by have := hlt10.out; omega) (off9.out b hs hb))
          case hss => repeat (first | with_reducible exact Sets.refl | with_reducible refine Sets.two ?_ | with_reducible refine Sets.one ?_)
end Go.Proofs.Ytidoaccidmmalaa.StpP
