/-
  Contracts of flood.Path, Copies, where they answer.
-/
import Derived.Test.YtgcmklliafcffaaFloodN
import Derived.Test.YtgcmklliafcffaaRegEnd
import Derived.BigRegion
namespace Go.Proofs.Ytgcmklliafcffaa.LanP
open Go.RowKit Go.Sort Go.Proofs.Ytgcmklliafcffaa.SliceP Go.Proofs.Ytgcmklliafcffaa.BoxP
open Go.Proofs.Ytgcmklliafcffaa.IntP (RowI SlI OwnI)
open Go.Proofs.Ytgcmklliafcffaa.BoolP (RowB SlB OwnB)
open Go.Proofs.Ytgcmklliafcffaa.MacP (arr_out Wrote wp_region_ends outM)
set_option linter.unusedVariables false
set_option maxRecDepth 100000
/- A path, from its end. -/
def pthK (l : L) (f t : Int) : Nat → Int
  | 0 => t
  | k + 1 => nrS l f (pthK l f t k)
def pthTo (l : L) (f t : Int) (k : Nat) : List Int := (List.range (k + 1)).map (pthK l f t)
theorem pthTo_succ (l : L) (f t : Int) (k : Nat) : pthTo l f t (k + 1) = pthTo l f t k ++ [nrS l f (pthK l f t k)] := by unfold pthTo; rw [List.range_succ, List.map_append]; rfl
theorem pthTo_len (l : L) (f t : Int) (k : Nat) : (pthTo l f t k).length = k + 1 := by unfold pthTo; simp
theorem pthTo_last (l : L) (f t : Int) (k : Nat) : (pthTo l f t k)[k]? = some (pthK l f t k) := by unfold pthTo; rw [List.getElem?_map, List.getElem?_range (by omega)]; rfl
theorem pth_is {l : L} (hf : l.fit) {f t : Int} (f0 : 0 ≤ f) (f1 : f < l.segs) (t0 : 0 ≤ t) (t1 : t < l.segs) {D : Nat} (hD : l.dst f t = D) : ∀ k, k ≤ D → (0 ≤ pthK l f t k ∧ pthK l f t k < l.segs) ∧ l.dst f (pthK l f t k) = D - k
  | 0, _ => ⟨⟨t0, t1⟩, by show l.dst f t = _; omega⟩
  | k + 1, h => by
    obtain ⟨⟨a, b⟩, c⟩ := pth_is hf f0 f1 t0 t1 hD k (by omega)
    obtain ⟨h1, h2, _⟩ := nr_is hf f0 f1 a b (by omega)
    exact ⟨(lnk_in hf h1).1, by show l.dst f (nrS l f (pthK l f t k)) = _; rw [h2, c]; omega⟩
def pathR (l : L) (f t : Int) : List Int := (pthTo l f t (l.dst f t).toNat).reverse
theorem whyO_two {l : L} {O : List (List Bool)} {s u : Int} (h : whyO l O [s, u] = 0) : whyO l O [s] = 0 := by
  obtain ⟨h1, h2, h3⟩ := whyO_zero h
  unfold whyO
  rw [h1, h2]
  have := h3 s (by simp)
  simp [outB]
  omega
set_option maxHeartbeats 8000000 in
theorem o_path_none {l : L} {O : List (List Bool)} {A : Option Addr} {c : Nat} {B : Option Addr} {d : Nat} {C : Option Addr} {e : Nat} {w : World} (hr : LanR w l A c B d) (hs : Small l) (hR : RowL bc w C O.length e O) (hO : O.length ≤ 1000) (hO2 : ∀ r ∈ O, r.length ≤ 1000) (s u : Int) (he : whyO l O [s, u] = 0) (hd : (l.op O).dst s u = -1) :
    Calls Try.prog 26 #[lv l A c B d, .slice C O.length e, .int .i64 s, .int .i64 u] w fun en w' => en = .returned (.tuple #[.slice none 0 0, .int .i64 4]) ∧ Below w.heap.size w w' := by
  obtain ⟨hok, hrw, hin⟩ := whyO_zero he
  obtain ⟨w0, hw0, X0, R0, B0⟩ := new3 w hr
  obtain ⟨w1, hw1⟩ : ∃ W, W = w0.alloc (.cells #[.int .i64 s, .int .i64 u] 3) := ⟨_, rfl⟩
  have hz0 : w0.heap.size = w.heap.size + 1 := by rw [hw0]; simp
  obtain ⟨n1, hn1⟩ : ∃ n, n = w.heap.size + 1 := ⟨_, rfl⟩
  have b1 : Below w0.heap.size w0 w1 := by rw [hw1]; exact (Below.refl _ _).alloc (Nat.le_refl _) _
  have B1 := Lib.hid (bt B0 b1)
  have X1 := Lib.hid (X0.below b1)
  have S1 : Row ic 1 w1 (some ⟨n1, 0, none⟩) 2 2 [s, u] := by rw [hw1, hn1, ← hz0]; exact row_one w0 [s, u] (by simp)
  have hck := Lib.hid (show Calls Try.prog 51 #[lv l A c B d, .slice C O.length e, .slice (some ⟨n1, 0, none⟩) 2 2] w1 _ from o_check17 (R0.below b1) hs ((hR.below B0).below b1) hO hO2 (ss := [s, u]) S1 (by simp) he)
  have hop := Lib.hid (fun W (hW : Below w1.heap.size w1 W) => o_opened ((R0.below b1).below hW) hs (((hR.below B0).below b1).below hW) hrw)
  have hpo := op_ok O hok
  have hps := op_small O hs
  have hpf := ok_fit hpo
  have hp0 := (hin s (by simp)).1
  have hp1 : s < (l.op O).segs := (hin s (by simp)).2
  have hq0 := (hin u (by simp)).1
  have hq1 : u < (l.op O).segs := (hin u (by simp)).2
  have hst := Lib.hid (fun A' c' W (hW : LanR W (l.op O) A' c' none 0) => o_stepsfrom hW hps hpo hp0 hp1)
  have hnear := Lib.hid (fun A' c' W S cS x (hW : LanR W (l.op O) A' c' none 0) (hrow : Row ic 1 W S (stpR (l.op O) s).length cS (stpR (l.op O) s)) h0 h1 => o_nearer hW hps hpo hp0 hp1 (s := x) h0 h1 hrow)
  have hpth := Lib.hid (fun D (hD : (l.op O).dst s u = ((D : Nat) : Int)) => pth_is hpf hp0 hp1 hq0 hq1 hD)
  have hat := stp_at hpf (f := s) (k := u.toNat) (by omega)
  rw [show ((u.toNat : Nat) : Int) = u by omega] at hat
  have hln := stp_len (l.op O) s
  have h8 := ok_small8 hpo
  have hnn := (ok_segs hpo).2.2
  have hdl := dst_lt hpf (dst_is hpf hp0 hp1) hq0 hq1
  have hdg := (dst_is hpf hp0 hp1).ge u hq0 hq1
  obtain ⟨q, hqu⟩ := nat_of hq0 hq1
  subst hqu
  simp only [Int.toNat_natCast] at hat
  obtain ⟨m, hm⟩ : ∃ m, l.op O = m := ⟨_, rfl⟩
  rw [hm] at hd hop hst hnear hpth hat hln h8 hnn hdl hdg hp1 hq1
  try rw [hm]
  obtain ⟨R, hRr⟩ : ∃ R, stpR m s = R := ⟨_, rfl⟩
  rw [hRr] at hst hnear hat hln
  have hqn : q < R.length := by rw [hln]; omega
  have hqn2 : (q : Int) < (R.length : Int) := by omega
  have hR8 : R.length ≤ 8 := by omega
  replace hz0 := Lib.hid hz0
  replace hm := Lib.hid hm
  replace hRr := Lib.hid hRr
  replace hln := Lib.hid hln
  replace hnn := Lib.hid hnn
  clear hr hs hR R0 X0 B0 b1 S1 hO hO2 he hok hrw hin hpo hps hpf hp0
  go_enter Try.func26, Try.ntmps26
  go_wp2_with fail
  rw [← hn1, ← hw0, ← hw1]
  clear hw0 hw1 hn1
  go_at_call 51
  (with_reducible refine hck.out.mono ?_)
  rintro e1 w2 ⟨rfl, hb2⟩
  have X2 := Lib.hid (X1.out.below hb2)
  have B2 := Lib.hid (bt B1.out hb2)
  have hop2 := Lib.hid (hop.out w2 hb2)
  clear hb2 hck X1 B1 hop
  have x0 := X2.out.c (i := 0) rfl
  have x1 := X2.out.c (i := 1) rfl
  have x2 := X2.out.c (i := 2) rfl
  have zz := X2.out.lt
  go_wp2_with fail
  go_at_call 53
  (with_reducible refine hop2.out.mono ?_)
  rintro e1 w3 ⟨A3, c3, rfl, hL3, hb3⟩
  obtain ⟨w4, hw4⟩ : ∃ W, W = w3.alloc (.cells #[.int .i64 m.segs, .slice A3 m.plans.length c3, .slice none m.hosts.length 0] 25) := ⟨_, rfl⟩
  obtain ⟨bl, hbl⟩ : ∃ b, b = w3.heap.size := ⟨_, rfl⟩
  have b4 : Below w3.heap.size w3 w4 := by rw [hw4]; exact (Below.refl _ _).alloc (Nat.le_refl _) _
  have L4 := Lib.hid ((hL3 _ (Stay.refl _ _)).below b4)
  have Y4 := Lib.hid (show Bx w4 bl 25 #[.int .i64 m.segs, .slice A3 m.plans.length c3, .slice none m.hosts.length 0] by rw [hw4]; exact Bx.new _ _ _ hbl.symm)
  have B4 := Lib.hid (bt (bt B2.out hb3) b4)
  have hs4 := Lib.hid (hst.out A3 c3 w4 L4.out)
  clear hL3 hb3 b4 x0 x1 x2 zz hop2 hst X2 B2
  go_upto_region 5 with fail
  rw [← hw4, ← hbl]
  clear hw4 hbl
  have y0 := Y4.out.c (i := 0) rfl
  have y1 := Y4.out.c (i := 1) rfl
  have y2 := Y4.out.c (i := 2) rfl
  have yz := Y4.out.lt
  go_wp2_with fail
  go_at_call 56
  (with_reducible refine hs4.out.mono ?_)
  rintro e1 w5 ⟨S5, c5, rfl, o5, hb5⟩
  have R5 := Lib.hid (Row.own o5 (by decide))
  have L5 := Lib.hid (L4.out.below hb5)
  have Y5 := Lib.hid (Y4.out.below hb5)
  have B5 := Lib.hid (bt B4.out hb5)
  obtain ⟨bS, oS, hAS, hbS, r0⟩ := Row.iat R5.out hat
  subst hAS
  have hcp := R5.out.cap
  have hmx := R5.out.mx
  replace hat := Lib.hid hat
  clear o5 hb5 y0 y1 y2 yz hs4 L4 Y4 B4
  rw [hd] at r0
  replace hd := Lib.hid hd
  go_wp2_with fail
  go_ret2
  exact ⟨rfl, B5.out⟩
set_option maxHeartbeats 8000000 in
theorem o_path_ok {l : L} {O : List (List Bool)} {A : Option Addr} {c : Nat} {B : Option Addr} {d : Nat} {C : Option Addr} {e : Nat} {w : World} (hr : LanR w l A c B d) (hs : Small l) (hR : RowL bc w C O.length e O) (hO : O.length ≤ 1000) (hO2 : ∀ r ∈ O, r.length ≤ 1000) (s u : Int) (he : whyO l O [s, u] = 0) (hd : 0 ≤ (l.op O).dst s u) :
    Calls Try.prog 26 #[lv l A c B d, .slice C O.length e, .int .i64 s, .int .i64 u] w fun en w' => ∃ A' c', en = .returned (.tuple #[.slice A' (pathR (l.op O) s u).length c', .int .i64 0]) ∧ Row ic 1 w' A' (pathR (l.op O) s u).length c' (pathR (l.op O) s u) ∧ Below w.heap.size w w' := by
  obtain ⟨hok, hrw, hin⟩ := whyO_zero he
  obtain ⟨w0, hw0, X0, R0, B0⟩ := new3 w hr
  obtain ⟨w1, hw1⟩ : ∃ W, W = w0.alloc (.cells #[.int .i64 s, .int .i64 u] 3) := ⟨_, rfl⟩
  have hz0 : w0.heap.size = w.heap.size + 1 := by rw [hw0]; simp
  obtain ⟨n1, hn1⟩ : ∃ n, n = w.heap.size + 1 := ⟨_, rfl⟩
  have b1 : Below w0.heap.size w0 w1 := by rw [hw1]; exact (Below.refl _ _).alloc (Nat.le_refl _) _
  have B1 := Lib.hid (bt B0 b1)
  have X1 := Lib.hid (X0.below b1)
  have S1 : Row ic 1 w1 (some ⟨n1, 0, none⟩) 2 2 [s, u] := by rw [hw1, hn1, ← hz0]; exact row_one w0 [s, u] (by simp)
  have hck := Lib.hid (show Calls Try.prog 51 #[lv l A c B d, .slice C O.length e, .slice (some ⟨n1, 0, none⟩) 2 2] w1 _ from o_check17 (R0.below b1) hs ((hR.below B0).below b1) hO hO2 (ss := [s, u]) S1 (by simp) he)
  have hop := Lib.hid (fun W (hW : Below w1.heap.size w1 W) => o_opened ((R0.below b1).below hW) hs (((hR.below B0).below b1).below hW) hrw)
  have hpo := op_ok O hok
  have hps := op_small O hs
  have hpf := ok_fit hpo
  have hp0 := (hin s (by simp)).1
  have hp1 : s < (l.op O).segs := (hin s (by simp)).2
  have hq0 := (hin u (by simp)).1
  have hq1 : u < (l.op O).segs := (hin u (by simp)).2
  have hst := Lib.hid (fun A' c' W (hW : LanR W (l.op O) A' c' none 0) => o_stepsfrom hW hps hpo hp0 hp1)
  have hnear := Lib.hid (fun A' c' W S cS x (hW : LanR W (l.op O) A' c' none 0) (hrow : Row ic 1 W S (stpR (l.op O) s).length cS (stpR (l.op O) s)) h0 h1 => o_nearer hW hps hpo hp0 hp1 (s := x) h0 h1 hrow)
  have hpth := Lib.hid (fun D (hD : (l.op O).dst s u = ((D : Nat) : Int)) => pth_is hpf hp0 hp1 hq0 hq1 hD)
  have hat := stp_at hpf (f := s) (k := u.toNat) (by omega)
  rw [show ((u.toNat : Nat) : Int) = u by omega] at hat
  have hln := stp_len (l.op O) s
  have h8 := ok_small8 hpo
  have hnn := (ok_segs hpo).2.2
  have hdl := dst_lt hpf (dst_is hpf hp0 hp1) hq0 hq1
  have hdg := (dst_is hpf hp0 hp1).ge u hq0 hq1
  obtain ⟨q, hqu⟩ := nat_of hq0 hq1
  subst hqu
  simp only [Int.toNat_natCast] at hat
  obtain ⟨m, hm⟩ : ∃ m, l.op O = m := ⟨_, rfl⟩
  rw [hm] at hd hop hst hnear hpth hat hln h8 hnn hdl hdg hp1 hq1
  try rw [hm]
  obtain ⟨R, hRr⟩ : ∃ R, stpR m s = R := ⟨_, rfl⟩
  rw [hRr] at hst hnear hat hln
  have hqn : q < R.length := by rw [hln]; omega
  have hqn2 : (q : Int) < (R.length : Int) := by omega
  have hR8 : R.length ≤ 8 := by omega
  replace hz0 := Lib.hid hz0
  replace hm := Lib.hid hm
  replace hRr := Lib.hid hRr
  replace hln := Lib.hid hln
  replace hnn := Lib.hid hnn
  obtain ⟨PR, hPR⟩ : ∃ PR, pathR m s q = PR := ⟨_, rfl⟩
  rw [hPR]
  replace hPR := Lib.hid hPR
  clear hr hs hR R0 X0 B0 b1 S1 hO hO2 he hok hrw hin hpo hps hpf hp0
  go_enter Try.func26, Try.ntmps26
  go_wp2_with fail
  rw [← hn1, ← hw0, ← hw1]
  clear hw0 hw1 hn1
  go_at_call 51
  (with_reducible refine hck.out.mono ?_)
  rintro e1 w2 ⟨rfl, hb2⟩
  have X2 := Lib.hid (X1.out.below hb2)
  have B2 := Lib.hid (bt B1.out hb2)
  have hop2 := Lib.hid (hop.out w2 hb2)
  clear hb2 hck X1 B1 hop
  have x0 := X2.out.c (i := 0) rfl
  have x1 := X2.out.c (i := 1) rfl
  have x2 := X2.out.c (i := 2) rfl
  have zz := X2.out.lt
  go_wp2_with fail
  go_at_call 53
  (with_reducible refine hop2.out.mono ?_)
  rintro e1 w3 ⟨A3, c3, rfl, hL3, hb3⟩
  obtain ⟨w4, hw4⟩ : ∃ W, W = w3.alloc (.cells #[.int .i64 m.segs, .slice A3 m.plans.length c3, .slice none m.hosts.length 0] 25) := ⟨_, rfl⟩
  obtain ⟨bl, hbl⟩ : ∃ b, b = w3.heap.size := ⟨_, rfl⟩
  have b4 : Below w3.heap.size w3 w4 := by rw [hw4]; exact (Below.refl _ _).alloc (Nat.le_refl _) _
  have L4 := Lib.hid ((hL3 _ (Stay.refl _ _)).below b4)
  have Y4 := Lib.hid (show Bx w4 bl 25 #[.int .i64 m.segs, .slice A3 m.plans.length c3, .slice none m.hosts.length 0] by rw [hw4]; exact Bx.new _ _ _ hbl.symm)
  have B4 := Lib.hid (bt (bt B2.out hb3) b4)
  have hs4 := Lib.hid (hst.out A3 c3 w4 L4.out)
  clear hL3 hb3 b4 x0 x1 x2 zz hop2 hst X2 B2
  go_upto_region 5 with fail
  rw [← hw4, ← hbl]
  clear hw4 hbl
  have y0 := Y4.out.c (i := 0) rfl
  have y1 := Y4.out.c (i := 1) rfl
  have y2 := Y4.out.c (i := 2) rfl
  have yz := Y4.out.lt
  go_wp2_with fail
  go_at_call 56
  (with_reducible refine hs4.out.mono ?_)
  rintro e1 w5 ⟨S5, c5, rfl, o5, hb5⟩
  have R5 := Lib.hid (Row.own o5 (by decide))
  have L5 := Lib.hid (L4.out.below hb5)
  have Y5 := Lib.hid (Y4.out.below hb5)
  have B5 := Lib.hid (bt B4.out hb5)
  obtain ⟨bS, oS, hAS, hbS, r0⟩ := Row.iat R5.out hat
  subst hAS
  have hcp := R5.out.cap
  have hmx := R5.out.mx
  replace hat := Lib.hid hat
  clear o5 hb5 y0 y1 y2 yz hs4 L4 Y4 B4
  obtain ⟨D, hD⟩ : ∃ D : Nat, m.dst s q = D := ⟨(m.dst s q).toNat, by omega⟩
  rw [hD] at r0
  have hD8 : D < 8 := by have := hnn.out; omega
  have hDm : ((D : Int) == -1) = false := by rw [beq_eq_false_iff_ne]; omega
  have hpt := Lib.hid (hpth.out D hD)
  have hpr := Lib.hid (show (pthTo m s q D).reverse = PR by rw [← hPR.out]; unfold pathR; rw [hD]; rfl)
  replace hd := Lib.hid hd
  replace hdl := Lib.hid hdl
  replace hdg := Lib.hid hdg
  replace hD := Lib.hid hD
  obtain ⟨w6, hw6⟩ : ∃ W, W = w5.alloc (.cells #[.int .i64 q] 3) := ⟨_, rfl⟩
  obtain ⟨n6, hn6⟩ : ∃ n, n = w5.heap.size := ⟨_, rfl⟩
  have b6 : Below w5.heap.size w5 w6 := by rw [hw6]; exact (Below.refl _ _).alloc (Nat.le_refl _) _
  have O6 := Lib.hid (show Own w6 n6 3 1 (.slice (some ⟨n6, 0, none⟩) 1 1) ((pthTo m s q 0).map ic) by rw [hw6, hn6]; exact IntP.own_lit w5 #[.int .i64 q] [(q : Int)] w5.heap.size 1 (Nat.le_refl _) rfl rfl (by simp))
  have b6n := Lib.hid (fun (W : World) (hW : Below n6 w6 W) => show Below w5.heap.size w5 W from b6.trans (by rw [← hn6]; exact hW))
  have R6 := Lib.hid (R5.out.below b6)
  have L6 := Lib.hid (L5.out.below b6)
  have Y6 := Lib.hid (Y5.out.below b6)
  have B6 := Lib.hid (bt B5.out b6)
  have hbS6 := Nat.lt_of_lt_of_le hbS b6.size
  have r06 : w6.cell? ⟨bS, oS + q, none⟩ = some (.int .i64 D) := (b6.cell (p := ⟨bS, oS + q, none⟩) hbS).trans r0
  have h56 := Lib.hid (show w.heap.size ≤ n6 ∧ n6 < w6.heap.size from ⟨by rw [hn6]; exact B5.out.size, by have := (own_free O6.out 0).2; exact this⟩)
  have keep_row := Lib.hid (fun (W : World) (hW : Below n6 w6 W) => (show Row ic 1 W (some ⟨bS, oS, none⟩) R.length c5 R from R5.out.below (b6n.out W hW)))
  have keep_lan := Lib.hid (fun (W : World) (hW : Below n6 w6 W) => (show LanR W m A3 c3 none 0 from L5.out.below (b6n.out W hW)))
  have keep_box := Lib.hid (fun (W : World) (hW : Below n6 w6 W) => (show Bx W bl 25 #[.int .i64 m.segs, .slice A3 m.plans.length c3, .slice none m.hosts.length 0] from Y5.out.below (b6n.out W hW)))
  clear R5 L5 Y5 B5 b6 b6n
  go_upto_region 9 with fail
  rw [← hw6, ← hn6]
  clear hw6 hn6 r0 hbS
  go_wp2_with fail
  clear r06 hbS6
  go_loopw [13, 14, 41] (fun v a i wr => ∃ k : Nat, k ≤ D ∧ i = .int .i64 k ∧ Own wr n6 3 1 v ((pthTo m s q k).map ic) ∧ Below n6 w6 wr) (fun _ _ i _ => D - (intOf i).toNat)
  case atStart => exact ⟨0, by omega, rfl, O6.out, Below.refl _ _⟩
  case round =>
    clear O6
    obtain ⟨k, hk, rfl, hown, hb⟩ := hrel
    obtain ⟨A7, c7, hv7⟩ := own_form hown
    subst hv7
    obtain ⟨wo, hwo⟩ : ∃ W, W = wr := ⟨_, rfl⟩
    subst hwo
    by_cases hkn : k < D
    · have hkl : (k : Int) < (D : Int) := by omega
      obtain ⟨x, hx⟩ : ∃ x, pthK m s q k = x := ⟨_, rfl⟩
      obtain ⟨hxr, hxd⟩ := hpt.out k hk
      rw [hx] at hxr hxd
      have hlast := pthTo_last m s q k
      have hsucc := pthTo_succ m s q k
      rw [hx] at hlast hsucc
      have hlen := pthTo_len m s q k
      obtain ⟨g, hg, hg0, hg1⟩ := own_ptr hown (by intro z; have z2 := congrArg List.length z; rw [List.length_map, hlen] at z2; simp at z2)
      subst hg
      have c0 : wo.cell? ⟨g, k, none⟩ = some (.int .i64 x) := by have := own_cell hown (by decide) (j := k) (i := 0) (cs := ic x) (by rw [List.getElem?_map, hlast]; rfl) rfl; simpa using this
      obtain ⟨PL, hPL⟩ : ∃ PL, pthTo m s q k = PL := ⟨_, rfl⟩
      rw [hPL] at hown hsucc hlen ⊢
      have hkl2 : (k : Int) < (PL.length : Int) := by omega
      have hkl3 : k < PL.length := by omega
      have hPl8 := Lib.hid (show PL.length ≤ 100 by omega)
      have hmx7 := (Row.own hown (by decide)).mx
      have hcp7 := (Row.own hown (by decide)).cap
      obtain ⟨y, hy⟩ : ∃ y, nrS m s x = y := ⟨_, rfl⟩
      have hB := Lib.hid (Below.trans (Below.mono B6.out (Nat.le_refl _)) (hb.mono h56.out.1))
      have hbw := Lib.hid hb
      have hb6 : Below w6.heap.size w6 wo → True := fun _ => trivial
      have Ro := Lib.hid (keep_row.out wo hb)
      have Lo := Lib.hid (keep_lan.out wo hb)
      have Yo := Lib.hid (keep_box.out wo hb)
      have hnr := Lib.hid (fun W (hW : Below wo.heap.size wo W) => hnear.out A3 c3 W (some ⟨bS, oS, none⟩) c5 x (Lo.out.below hW) (Ro.out.below hW) hxr.1 hxr.2)
      rw [hy] at hnr hsucc
      have hg1' := hg1
      have y0 := Yo.out.c (i := 0) rfl
      have y1 := Yo.out.c (i := 1) rfl
      have y2 := Yo.out.c (i := 2) rfl
      have yz := Yo.out.lt
      have O7 := Lib.hid hown
      replace hlast := Lib.hid hlast
      replace hsucc := Lib.hid hsucc
      replace hlen := Lib.hid hlen
      replace hx := Lib.hid hx
      replace hxd := Lib.hid hxd
      replace hPL := Lib.hid hPL
      replace hy := Lib.hid hy
      replace hxr := Lib.hid hxr
      clear hown hb hb6
      go_upto_region 12 with fail
      refine wp_region_ends (by kernel_rfl) (fun ix => match ix with | 0 => 44 | 1 => 45 | 2 => 46 | 3 => 47 | 4 => 48 | 5 => 49 | 6 => 50 | 7 => 51 | 8 => 52 | _ => 0) 9 (by kernel_rfl) (fun i v W => match i with | 0 => v = .slice (some ⟨g, 0, none⟩) PL.length c7 | 1 => v = .agg #[.int .i64 m.segs, .slice A3 m.plans.length c3, .slice none m.hosts.length 0] | 2 => v = Value.slice (some { block := bS, off := oS }) R.length c5 | 3 => v = .slice (some ⟨g, 0, none⟩) PL.length c7 | 4 => v = .int .i64 (k : Int) | 5 => v = .pointer (some ⟨g, k, none⟩) | 6 => v = .int .i64 x | 7 => v = .int .i64 y | 8 => ∃ h8, v = .slice (some ⟨h8, 0, none⟩) 1 1 ∧ Sl W 1 (some ⟨h8, 0, none⟩) ([y].map ic) | _ => True) (fun i v W W' h hb => by
          match i with
          | 0 => exact h
          | 1 => exact h
          | 2 => exact h
          | 3 => exact h
          | 4 => exact h
          | 5 => exact h
          | 6 => exact h
          | 7 => exact h
          | 8 => exact (by obtain ⟨h8, q1, q2⟩ := h; exact ⟨h8, q1, Sl.below q2 hb⟩)
          | n + 9 => exact trivial) ?_ ?_
      refine ⟨?_, ?_, ?_, ?_, ?_, ?_, ?_, ?_, ?_, trivial⟩
      · as_aux_lemma =>
          intro a W2 K hb hdep hk hK
          replace hK : ∀ v w', (v = .slice (some ⟨g, 0, none⟩) PL.length c7) → Below W2.heap.size W2 w' → K (a.put (some 44) v) w' := hK
          have d13 : a.tmps.getD 13 undef = .slice (some ⟨g, 0, none⟩) PL.length c7 := hk 13 (by kernel_rfl)
          clear hdep hk hb
          go_simp
          exact hK _ _ rfl (Below.refl _ _)
      · as_aux_lemma =>
          intro a W2 K hb hdep hk hK
          replace hK : ∀ v w', (v = .agg #[.int .i64 m.segs, .slice A3 m.plans.length c3, .slice none m.hosts.length 0]) → Below W2.heap.size W2 w' → K (a.put (some 45) v) w' := hK
          have d11 : a.tmps.getD 11 undef = Value.pointer (some { block := bl, off := 0 }) := hk 11 (by kernel_rfl)
          have t0 := (hb.cell (p := ⟨bl, 0, none⟩) yz).trans y0
          have t1 := (hb.cell (p := ⟨bl, 1, none⟩) yz).trans y1
          have t2 := (hb.cell (p := ⟨bl, 2, none⟩) yz).trans y2
          have tz := Nat.lt_of_lt_of_le yz hb.size
          clear hdep hk hb
          go_simp
          exact hK _ _ rfl (Below.refl _ _)
      · as_aux_lemma =>
          intro a W2 K hb hdep hk hK
          replace hK : ∀ v w', (v = Value.slice (some { block := bS, off := oS }) R.length c5) → Below W2.heap.size W2 w' → K (a.put (some 46) v) w' := hK
          have d12 : a.tmps.getD 12 undef = Value.slice (some { block := bS, off := oS }) R.length c5 := hk 12 (by kernel_rfl)
          clear hdep hk hb
          go_simp
          exact hK _ _ rfl (Below.refl _ _)
      · as_aux_lemma =>
          intro a W2 K hb hdep hk hK
          replace hK : ∀ v w', (v = .slice (some ⟨g, 0, none⟩) PL.length c7) → Below W2.heap.size W2 w' → K (a.put (some 47) v) w' := hK
          have d13 : a.tmps.getD 13 undef = .slice (some ⟨g, 0, none⟩) PL.length c7 := hk 13 (by kernel_rfl)
          clear hdep hk hb
          go_simp
          exact hK _ _ rfl (Below.refl _ _)
      · as_aux_lemma =>
          intro a W2 K hb hdep hk hK
          replace hK : ∀ v w', (v = .int .i64 (k : Int)) → Below W2.heap.size W2 w' → K (a.put (some 48) v) w' := hK
          have d14 : a.tmps.getD 14 undef = Value.int IntKind.i64 ↑k := hk 14 (by kernel_rfl)
          clear hdep hk hb
          go_simp
          exact hK _ _ rfl (Below.refl _ _)
      · as_aux_lemma =>
          intro a W2 K hb hdep hk hK
          replace hK : ∀ v w', (v = .pointer (some ⟨g, k, none⟩)) → Below W2.heap.size W2 w' → K (a.put (some 49) v) w' := hK
          have d47 : a.tmps.getD 47 undef = .slice (some ⟨g, 0, none⟩) PL.length c7 := hdep ⟨3, .data⟩ (by simp) rfl
          have d48 : a.tmps.getD 48 undef = .int .i64 (k : Int) := hdep ⟨4, .data⟩ (by simp) rfl
          clear hdep hk hb
          go_simp
          exact hK _ _ rfl (Below.refl _ _)
      · as_aux_lemma =>
          intro a W2 K hb hdep hk hK
          replace hK : ∀ v w', (v = .int .i64 x) → Below W2.heap.size W2 w' → K (a.put (some 50) v) w' := hK
          have d49 : a.tmps.getD 49 undef = .pointer (some ⟨g, k, none⟩) := hdep ⟨5, .data⟩ (by simp) rfl
          have t0 := (hb.cell (p := ⟨g, k, none⟩) hg1').trans c0
          clear hdep hk hb
          go_simp
          exact hK _ _ rfl (Below.refl _ _)
      · as_aux_lemma =>
          intro a W2 K hb hdep hk hK
          replace hK : ∀ v w', (v = .int .i64 y) → Below W2.heap.size W2 w' → K (a.put (some 51) v) w' := hK
          have d45 : a.tmps.getD 45 undef = .agg #[.int .i64 m.segs, .slice A3 m.plans.length c3, .slice none m.hosts.length 0] := hdep ⟨1, .data⟩ (by simp) rfl
          have d46 : a.tmps.getD 46 undef = Value.slice (some { block := bS, off := oS }) R.length c5 := hdep ⟨2, .data⟩ (by simp) rfl
          have d50 : a.tmps.getD 50 undef = .int .i64 x := hdep ⟨6, .data⟩ (by simp) rfl
          have hcall := hnr.out W2 hb
          clear hdep hk hb
          have q45 : a.tmps[45]?.getD undef = .agg #[.int .i64 m.segs, .slice A3 m.plans.length c3, .slice none m.hosts.length 0] := by simpa [Array.getD_eq_getD_getElem?] using d45
          clear d45
          have q46 : a.tmps[46]?.getD undef = Value.slice (some { block := bS, off := oS }) R.length c5 := by simpa [Array.getD_eq_getD_getElem?] using d46
          clear d46
          have q50 : a.tmps[50]?.getD undef = .int .i64 x := by simpa [Array.getD_eq_getD_getElem?] using d50
          clear d50
          go_simp
          refine hcall.mono ?_
          rintro e w9 ⟨rfl, hb9⟩
          exact hK _ _ rfl hb9
      · as_aux_lemma =>
          intro a W2 K hb hdep hk hK
          replace hK : ∀ v w', (∃ h8, v = .slice (some ⟨h8, 0, none⟩) 1 1 ∧ Sl w' 1 (some ⟨h8, 0, none⟩) ([y].map ic)) → Below W2.heap.size W2 w' → K (a.put (some 52) v) w' := hK
          have d51 : a.tmps.getD 51 undef = .int .i64 y := hdep ⟨7, .data⟩ (by simp) rfl
          clear hdep hk hb
          have q51 : a.tmps[51]?.getD undef = .int .i64 y := by simpa [Array.getD_eq_getD_getElem?] using d51
          clear d51
          go_simp
          exact hK _ _ ⟨W2.heap.size, rfl, bx_sl (T := 3) (vals := #[.int .i64 y]) (Bx.new _ _ _ rfl) rfl (by intro cc hcc; simp at hcc; subst hcc; rfl)⟩ ((Below.refl _ _).alloc (Nat.le_refl _) _)
      intro a W3 hb3 hsp hk hn hdf
      obtain ⟨h8, s52, sl52⟩ := hsp 8 (by decide)
      have s0 : a.tmps.getD 0 undef = lv l A c B d := hk 0 (by kernel_rfl)
      have s1 : a.tmps.getD 1 undef = Value.slice C O.length e := hk 1 (by kernel_rfl)
      have s2 : a.tmps.getD 2 undef = Value.int IntKind.i64 s := hk 2 (by kernel_rfl)
      have s3 : a.tmps.getD 3 undef = Value.int IntKind.i64 ↑q := hk 3 (by kernel_rfl)
      have s4 : a.tmps.getD 4 undef = Value.pointer (some { block := w.heap.size, off := 0 }) := hk 4 (by kernel_rfl)
      have s5 : a.tmps.getD 5 undef = undef := hk 5 (by kernel_rfl)
      have s6 : a.tmps.getD 6 undef = undef := hk 6 (by kernel_rfl)
      have s7 : a.tmps.getD 7 undef = undef := hk 7 (by kernel_rfl)
      have s8 : a.tmps.getD 8 undef = Value.slice none 0 0 := hk 8 (by kernel_rfl)
      have s9 : a.tmps.getD 9 undef = Value.int IntKind.i64 0 := hk 9 (by kernel_rfl)
      have s10 : a.tmps.getD 10 undef = Value.int IntKind.i64 0 := hk 10 (by kernel_rfl)
      have s11 : a.tmps.getD 11 undef = Value.pointer (some { block := bl, off := 0 }) := hk 11 (by kernel_rfl)
      have s12 : a.tmps.getD 12 undef = Value.slice (some { block := bS, off := oS }) R.length c5 := hk 12 (by kernel_rfl)
      have s13 : a.tmps.getD 13 undef = .slice (some ⟨g, 0, none⟩) PL.length c7 := hk 13 (by kernel_rfl)
      have s14 : a.tmps.getD 14 undef = Value.int IntKind.i64 ↑k := hk 14 (by kernel_rfl)
      have s15 : a.tmps.getD 15 undef = Value.agg #[Value.int IntKind.i64 l.segs, Value.slice A l.plans.length c, Value.slice B l.hosts.length d] := hk 15 (by kernel_rfl)
      have s16 : a.tmps.getD 16 undef = Value.slice C O.length e := hk 16 (by kernel_rfl)
      have s17 : a.tmps.getD 17 undef = Value.int IntKind.i64 s := hk 17 (by kernel_rfl)
      have s18 : a.tmps.getD 18 undef = Value.int IntKind.i64 ↑q := hk 18 (by kernel_rfl)
      have s19 : a.tmps.getD 19 undef = Value.slice (some { block := n1, off := 0 }) 2 2 := hk 19 (by kernel_rfl)
      have s20 : a.tmps.getD 20 undef = Value.int IntKind.i64 0 := hk 20 (by kernel_rfl)
      have s21 : a.tmps.getD 21 undef = Value.int IntKind.i64 0 := hk 21 (by kernel_rfl)
      have s22 : a.tmps.getD 22 undef = Value.bool false := hk 22 (by kernel_rfl)
      have s23 : a.tmps.getD 23 undef = undef := hk 23 (by kernel_rfl)
      have s24 : a.tmps.getD 24 undef = Value.agg #[Value.int IntKind.i64 l.segs, Value.slice A l.plans.length c, Value.slice B l.hosts.length d] := hk 24 (by kernel_rfl)
      have s25 : a.tmps.getD 25 undef = Value.slice C O.length e := hk 25 (by kernel_rfl)
      have s26 : a.tmps.getD 26 undef = lv m A3 c3 none 0 := hk 26 (by kernel_rfl)
      have s27 : a.tmps.getD 27 undef = Value.agg #[Value.int IntKind.i64 m.segs, Value.slice A3 m.plans.length c3, Value.slice none m.hosts.length 0] := hk 27 (by kernel_rfl)
      have s28 : a.tmps.getD 28 undef = Value.int IntKind.i64 s := hk 28 (by kernel_rfl)
      have s29 : a.tmps.getD 29 undef = Value.slice (some { block := bS, off := oS }) R.length c5 := hk 29 (by kernel_rfl)
      have s30 : a.tmps.getD 30 undef = Value.slice (some { block := bS, off := oS }) R.length c5 := hk 30 (by kernel_rfl)
      have s31 : a.tmps.getD 31 undef = Value.int IntKind.i64 ↑q := hk 31 (by kernel_rfl)
      have s32 : a.tmps.getD 32 undef = Value.pointer (some { block := bS, off := oS + q }) := hk 32 (by kernel_rfl)
      have s33 : a.tmps.getD 33 undef = Value.int IntKind.i64 ↑D := hk 33 (by kernel_rfl)
      have s34 : a.tmps.getD 34 undef = Value.bool false := hk 34 (by kernel_rfl)
      have s35 : a.tmps.getD 35 undef = Value.int IntKind.i64 ↑q := hk 35 (by kernel_rfl)
      have s36 : a.tmps.getD 36 undef = Value.slice (some { block := n6, off := 0 }) 1 1 := hk 36 (by kernel_rfl)
      have s37 : a.tmps.getD 37 undef = Value.slice (some { block := bS, off := oS }) R.length c5 := hk 37 (by kernel_rfl)
      have s38 : a.tmps.getD 38 undef = Value.int IntKind.i64 ↑q := hk 38 (by kernel_rfl)
      have s39 : a.tmps.getD 39 undef = Value.pointer (some { block := bS, off := oS + q }) := hk 39 (by kernel_rfl)
      have s40 : a.tmps.getD 40 undef = Value.int IntKind.i64 ↑D := hk 40 (by kernel_rfl)
      have s41 : a.tmps.getD 41 undef = Value.int IntKind.i64 ↑k := hk 41 (by kernel_rfl)
      have s42 : a.tmps.getD 42 undef = Value.bool true := hk 42 (by kernel_rfl)
      have s43 : a.tmps.getD 43 undef = Value.int IntKind.i64 ↑k := hk 43 (by kernel_rfl)
      have s55 : a.tmps.getD 55 undef = undef := hk 55 (by kernel_rfl)
      have s56 : a.tmps.getD 56 undef = undef := hk 56 (by kernel_rfl)
      have s57 : a.tmps.getD 57 undef = undef := hk 57 (by kernel_rfl)
      have s44 : a.tmps.getD 44 undef = .slice (some ⟨g, 0, none⟩) PL.length c7 := hsp 0 (by decide)
      have s45 : a.tmps.getD 45 undef = .agg #[.int .i64 m.segs, .slice A3 m.plans.length c3, .slice none m.hosts.length 0] := hsp 1 (by decide)
      have s46 : a.tmps.getD 46 undef = Value.slice (some { block := bS, off := oS }) R.length c5 := hsp 2 (by decide)
      have s47 : a.tmps.getD 47 undef = .slice (some ⟨g, 0, none⟩) PL.length c7 := hsp 3 (by decide)
      have s48 : a.tmps.getD 48 undef = .int .i64 (k : Int) := hsp 4 (by decide)
      have s49 : a.tmps.getD 49 undef = .pointer (some ⟨g, k, none⟩) := hsp 5 (by decide)
      have s50 : a.tmps.getD 50 undef = .int .i64 x := hsp 6 (by decide)
      have s51 : a.tmps.getD 51 undef = .int .i64 y := hsp 7 (by decide)
      have s52 : a.tmps.getD 52 undef = .slice (some ⟨h8, 0, none⟩) 1 1 := s52
      clear hk hsp s52
      obtain ⟨tm, df⟩ := a
      have e := arr_out tm 58 hn
      replace e : tm = #[tm.getD 0 undef, tm.getD 1 undef, tm.getD 2 undef, tm.getD 3 undef, tm.getD 4 undef, tm.getD 5 undef, tm.getD 6 undef, tm.getD 7 undef, tm.getD 8 undef, tm.getD 9 undef, tm.getD 10 undef, tm.getD 11 undef, tm.getD 12 undef, tm.getD 13 undef, tm.getD 14 undef, tm.getD 15 undef, tm.getD 16 undef, tm.getD 17 undef, tm.getD 18 undef, tm.getD 19 undef, tm.getD 20 undef, tm.getD 21 undef, tm.getD 22 undef, tm.getD 23 undef, tm.getD 24 undef, tm.getD 25 undef, tm.getD 26 undef, tm.getD 27 undef, tm.getD 28 undef, tm.getD 29 undef, tm.getD 30 undef, tm.getD 31 undef, tm.getD 32 undef, tm.getD 33 undef, tm.getD 34 undef, tm.getD 35 undef, tm.getD 36 undef, tm.getD 37 undef, tm.getD 38 undef, tm.getD 39 undef, tm.getD 40 undef, tm.getD 41 undef, tm.getD 42 undef, tm.getD 43 undef, tm.getD 44 undef, tm.getD 45 undef, tm.getD 46 undef, tm.getD 47 undef, tm.getD 48 undef, tm.getD 49 undef, tm.getD 50 undef, tm.getD 51 undef, tm.getD 52 undef, tm.getD 53 undef, tm.getD 54 undef, tm.getD 55 undef, tm.getD 56 undef, tm.getD 57 undef] := e
      simp only at s0 s1 s2 s3 s4 s5 s6 s7 s8 s9 s10 s11 s12 s13 s14 s15 s16 s17 s18 s19 s20 s21 s22 s23 s24 s25 s26 s27 s28 s29 s30 s31 s32 s33 s34 s35 s36 s37 s38 s39 s40 s41 s42 s43 s55 s56 s57 s44 s45 s46 s47 s48 s49 s50 s51 s52 hdf
      rw [s0, s1, s2, s3, s4, s5, s6, s7, s8, s9, s10, s11, s12, s13, s14, s15, s16, s17, s18, s19, s20, s21, s22, s23, s24, s25, s26, s27, s28, s29, s30, s31, s32, s33, s34, s35, s36, s37, s38, s39, s40, s41, s42, s43, s55, s56, s57, s44, s45, s46, s47, s48, s49, s50, s51, s52] at e
      subst hdf
      clear s0 s1 s2 s3 s4 s5 s6 s7 s8 s9 s10 s11 s12 s13 s14 s15 s16 s17 s18 s19 s20 s21 s22 s23 s24 s25 s26 s27 s28 s29 s30 s31 s32 s33 s34 s35 s36 s37 s38 s39 s40 s41 s42 s43 s55 s56 s57 s44 s45 s46 s47 s48 s49 s50 s51 s52 hn
      generalize tm.getD 53 undef = u53 at e
      generalize tm.getD 54 undef = u54 at e
      subst e
      simp only [List.drop_succ_cons, List.drop_zero]
      have O8 := Lib.hid (O7.out.below hb3)
      have b8 := Lib.hid (hbw.out.trans (hb3.mono (Nat.le_trans (Nat.le_of_lt h56.out.2) (Nat.le_trans (Nat.le_of_eq rfl) hbw.out.size))))
      clear O7 hb3 y0 y1 y2 yz c0 hg1' hnr
      have hsl := Lib.hid sl52
      have hn1q : Hid ((PL.map ic).length + ([y].map ic).length ≤ 1000000) := Lib.hid (by rw [List.length_map]; have := hPl8.out; simp; omega)
      have hvl : Hid ((PL.map ic).length = PL.length) := Lib.hid (by rw [List.length_map])
      have hB2 : Hid (n6 ≤ W3.heap.size) := Lib.hid (Nat.le_trans (Nat.le_of_lt h56.out.2) b8.out.size)
      clear sl52
      go_wp2_with (at_builtin; (refine wpList_append_sl rfl (.tmp 44) (.tmp 52) 43 rfl IntP.elI (by rfl) O8.out (by rfl) (by rfl) hsl.out (wholeI _) (fun h => by cases h) hn1q.out hB2.out ?_); intro v' w4 own1 grow1 _)
      have b4 : Below n6 w6 w4 := b8.out.grown grow1 hB2.out (fun j hj => (O8.out.lt j hj).1)
      have own2 := own_snoc own1
      rw [← hsucc.out] at own2
      go_roundw
      case rel => exact ⟨k + 1, by omega, by go_num, own2, b4⟩
      case measure => simp [intOf]; omega
    · obtain rfl : k = D := by omega
      have hlen := pthTo_len m s q k
      obtain ⟨g, hg, hg0, hg1⟩ := own_ptr hown (by intro z; have z2 := congrArg List.length z; rw [List.length_map, hlen] at z2; simp at z2)
      subst hg
      obtain ⟨PL, hPL⟩ : ∃ PL, pthTo m s q k = PL := ⟨_, rfl⟩
      rw [hPL] at hown hlen
      have hpr2 := hpr.out
      rw [hPL] at hpr2 ⊢
      have hrv := Lib.hid (o_reverse hown (by omega) (by omega) hg0 hpr2)
      have hbw := Lib.hid (B6.out.trans (hb.mono h56.out.1))
      have hgw := Lib.hid hg0
      have hPRl := Lib.hid (show PL.length = PR.length by rw [← hpr2, List.length_reverse])
      replace hlen := Lib.hid hlen
      replace hPL := Lib.hid hPL
      replace hpr2 := Lib.hid hpr2
      have hmx7 := (Row.own hown (by decide)).mx
      have hcp7 := (Row.own hown (by decide)).cap
      clear hown hb
      go_wp2_with fail
      go_at_call 61
      (with_reducible refine hrv.out.mono ?_)
      rintro e1 w9 ⟨rfl, o9, hb9⟩
      rw [hPRl.out] at o9
      have R9 := Lib.hid (Row.own o9 (by decide))
      have B9 := Lib.hid (hbw.out.trans (hb9.mono h56.out.1))
      have hql := hPRl.out
      replace hql := Lib.hid hql
      clear o9 hb9 hrv
      go_wp2_with fail
      go_ret2
      exact ⟨some ⟨g, 0, none⟩, c7, by rw [hql.out]; rfl, R9.out, B9.out⟩
end Go.Proofs.Ytgcmklliafcffaa.LanP
