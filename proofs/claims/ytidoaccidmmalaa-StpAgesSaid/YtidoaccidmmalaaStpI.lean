/-
  Contract of footwayref12: Tick.
-/
import Derived.Test.YtidoaccidmmalaaStpF
import Derived.Test.YtidoaccidmmalaaStpE
import Derived.LoopTactic
namespace Go.Proofs.Ytidoaccidmmalaa.StpP
open Go.Proofs.Ytidoaccidmmalaa.MacP (arr_out Wrote wp_region_ends outM)
open Go.RowKit Go.Sort Go.Proofs.Ytidoaccidmmalaa.SliceP Go.Proofs.Ytidoaccidmmalaa.BoxP Go.Proofs.Ytidoaccidmmalaa.VecP Go.Proofs.Ytidoaccidmmalaa.RoleP
open Go.Proofs.Ytidoaccidmmalaa.IntP (RowI SlI OwnI)
open Go.Proofs.Ytidoaccidmmalaa.BoolP (RowB SlB OwnB)
open Go.Proofs.Ytidoaccidmmalaa.PortP (okS roleS tickS sv)
set_option linter.unusedVariables false
set_option maxRecDepth 100000
/-- A tree, and a row of what goes out, are handed back. -/
def RetTD (w : World) (src : Nat → Prop) (t : T) (l : List Snd) (mk : Value → Value → Value) (e : Ending) (w' : World) : Prop :=
  ∃ AC cC AU cU AI cI AS cS AD cD, e = .returned (mk (tv t AC cC AU cU AI cI AS cS) (.slice AD l.length cD)) ∧ TreeR w' t AC cC AU cU AI cI AS cS ∧ RowD w' AD l.length cD l ∧ Below w.heap.size w w' ∧ ∀ b, b < w.heap.size → src b → OffT b t AC AU AI AS
theorem fin_td {c n : Nat} {w wr W : World} {src : Nat → Prop} {t' : T} {l : List Snd} {AC : Option Addr} {cC : Nat} {AU : Option Addr} {cU : Nat} {AI : Option Addr} {cI : Nat} {AS : Option Addr} {cS : Nat} {AD : Option Addr} {cD : Nat} {mk : Value → Value → Value} {v : Value} (hss : Sets w.heap.size (w.heap.size + c) wr W) (hbw : Below w.heap.size w wr) (hn : w.heap.size + c < n) (hv : v = mk (tv t' AC cC AU cU AI cI AS cS) (.slice AD l.length cD))
    (hr : TreeR wr t' AC cC AU cU AI cI AS cS) (hd : RowD wr AD l.length cD l) (hf : ∀ a, AD = some a → n ≤ a.block) (s1 : ∀ b, w.heap.size ≤ b → src b) (hoff : ∀ b, src b → b < n → OffT b t' AC AU AI AS) : RetTD w src t' l mk (.returned v) W := by
  subst hv
  exact ⟨AC, cC, AU, cU, AI, cI, AS, cS, AD, cD, rfl, hss.tree hr (hoff _ (s1 _ (Nat.le_refl _)) (by omega)) (hoff _ (s1 _ (by omega)) hn), ⟨hd.len, hss.slm hd.sl (fun _ a ha => by have := hf a ha; omega) (fun _ a ha => by have := hf a ha; omega), hd.cap, hd.nil⟩, hss.below hbw (Nat.le_refl _) (by omega), fun b hb hs => hoff b hs (by omega)⟩
theorem aged_to {t : T} {AC : Option Addr} {cC : Nat} {AU : Option Addr} {cU : Nat} {AI : Option Addr} {cI : Nat} {AS : Option Addr} {cS : Nat} {w : World} (hok : t.self.ok = true) (hR : TreeR w t AC cC AU cU AI cI AS cS) : Calls Try.prog 55 #[tv t AC cC AU cU AI cI AS cS] w (RetT w (fun b => OffT b t AC AU AI AS) t.aged (fun v => v)) := r_aged hok hR
theorem t10_to {x y : Int × Int} {d : Int} (h : okS x.1 x.2 d = true) (hy : tickS x.1 x.2 d = y) (w : World) : Calls Try.prog 56 #[.agg #[.int .i64 x.1, .int .i64 x.2], .int .i64 d] w fun e w' => e = .returned (.agg #[.int .i64 y.1, .int .i64 y.2]) ∧ Below w.heap.size w w' := by
  have := PortP.r_tick h w
  rw [hy] at this
  exact this
theorem tell11_to {s : S} {AC : Option Addr} {cC : Nat} {AU : Option Addr} {cU : Nat} {AI : Option Addr} {cI : Nat} {w : World} {p : Nat} {most : Int} {v : V} {n : Int} {b : Bool} (hF : Fit s) (hp : p < s.costs.length) (hv : s.told p most = v) (hn : s.toldAge p most = n) (hb : s.tell p most = b) (hR : SelfR w s AC cC AU cU AI cI) : Calls Try.prog 57 #[selfV s.id (.slice AC s.costs.length cC) (.slice AU s.ups.length cU) (.slice AI s.infos.length cI), .int .i64 p, .int .i64 most] w fun e w' => e = .returned (.tuple #[cg v n, .bool b]) ∧ Below w.heap.size w w' := by
  have := r_tell hF hR hp most
  rwa [hv, hn, hb] at this
theorem own_far' {w : World} {B : Nat} {e : TypeId} {sz : Nat} {v : Value} {xs : List (List Value)} (h : Own w B e sz v xs) {A : Option Addr} {n c : Nat} (hv : v = .slice A n c) : ∀ a, A = some a → B ≤ a.block := by subst hv; exact own_far h
theorem flat_succ {α : Type} (f : Nat → List α) (k : Nat) : (List.range (k + 1)).flatMap f = (List.range k).flatMap f ++ f k := by rw [List.range_succ, List.flatMap_append]; simp
theorem sends_len (t : T) : ∀ k, ((List.range k).flatMap t.send).length ≤ k
  | 0 => by simp
  | k + 1 => by
    rw [flat_succ, List.length_append]
    have := sends_len t k
    have h2 : (t.send k).length ≤ 1 := by unfold T.send; split <;> simp
    omega
set_option maxHeartbeats 16000000 in
theorem r_tickT {t : T} {AC : Option Addr} {cC : Nat} {AU : Option Addr} {cU : Nat} {AI : Option Addr} {cI : Nat} {AS : Option Addr} {cS : Nat} {w : World} (hok : t.ok = true) (hR : TreeR w t AC cC AU cU AI cI AS cS) :
    Calls Try.prog 19 #[tv t AC cC AU cU AI cI AS cS] w (RetTD w (fun b => OffT b t AC AU AI AS) t.tick t.tick.sends (fun v l => .tuple #[v, l])) := by
  have hpa := aged_pre hok
  have hso := settle_ok hpa
  have hself := (ok_headT hok).1
  have hn8 : t.states.length ≤ 8 := by have h1 := (ok_headT hok).2.1; have h2 := (head_iff.1 (ok_head hself)).2.1.2; omega
  obtain ⟨u, hu⟩ : ∃ u, t.aged.settle = u := ⟨_, rfl⟩
  have hsts : ∀ k, k < u.states.length → okS (u.st k).1 (u.st k).2 u.dl = true := by rw [← hu]; exact fun k hk => (ok_portT hso hk).1
  have hFit : Fit u.self := by rw [← hu]; exact Fit.mk hpa.self
  have hul : u.states.length = u.self.costs.length := by rw [← hu]; exact (ok_headT hso).2.1
  have hu8 : u.states.length ≤ 8 := by rw [← hu, settle_len]; exact hn8
  have htk : t.tick = u.ticked := by unfold T.tick; rw [hu]
  rw [htk]
  clear htk hso
  replace hsts := Lib.hid hsts
  replace hFit := Lib.hid hFit
  replace hul := Lib.hid hul
  replace hu := Lib.hid hu
  replace hpa := Lib.hid hpa
  replace hself := Lib.hid hself
  clear hok hn8
  obtain ⟨w0, hw0⟩ : ∃ W, W = (w.alloc (.cells #[.int .i64 t.self.id, .slice AC t.self.costs.length cC, .slice AU t.self.ups.length cU, .slice AI t.self.infos.length cI, .slice AS t.states.length cS, .int .i64 t.mx, .int .i64 t.dl] 29)).alloc (.cells #[.int .i64 0, .slice none 0 0, .slice none 0 0, .slice none 0 0, .slice none 0 0, .int .i64 0, .int .i64 0] 29) := ⟨_, rfl⟩
  have bI : Below (w.alloc (.cells #[.int .i64 t.self.id, .slice AC t.self.costs.length cC, .slice AU t.self.ups.length cU, .slice AI t.self.infos.length cI, .slice AS t.states.length cS, .int .i64 t.mx, .int .i64 t.dl] 29)).heap.size (w.alloc (.cells #[.int .i64 t.self.id, .slice AC t.self.costs.length cC, .slice AU t.self.ups.length cU, .slice AI t.self.infos.length cI, .slice AS t.states.length cS, .int .i64 t.mx, .int .i64 t.dl] 29)) w0 := by rw [hw0]; exact (Below.refl _ _).alloc (Nat.le_refl _) _
  have I := Lib.hid (show InT w w0 t AC cC AU cU AI cI AS cS from (InT.new hR).below bI)
  have X := Lib.hid (show Bx w0 (w.heap.size + 1) 29 #[.int .i64 0, .slice none 0 0, .slice none 0 0, .slice none 0 0, .slice none 0 0, .int .i64 0, .int .i64 0] by rw [hw0]; exact Bx.new _ _ _ (by simp))
  have n0 := Lib.hid (show w.heap.size + 2 = w0.heap.size by rw [hw0]; simp)
  have hR0 := Lib.hid hR
  clear bI hR
  have z0 := I.out.x.lt
  have B0 := I.out.b
  go_enter Try.func19, Try.ntmps19
  go_wp2_with fail
  rw [← hw0]
  clear hw0
  go_at_call 55
  (with_reducible refine (aged_to hself.out I.out.r).mono ?_)
  rintro e w1 ⟨AC4, cC4, AU4, cU4, AI4, cI4, AS4, cS4, rfl, tr4, hb1, of4⟩
  have hsz4 := Lib.hid hb1.size
  have I_w1 := Lib.hid (I.out.below hb1)
  have X_w1 := Lib.hid (X.out.below hb1)
  have z0_w1 : w.heap.size < w1.heap.size := Nat.lt_of_lt_of_le z0 hb1.size
  have B_w1 := bt B0 hb1
  clear I X z0 B0 hb1
  replace tr4 := Lib.hid tr4
  replace of4 := Lib.hid of4
  have hst4 := Lib.hid (show Calls Try.prog 44 #[tv t.aged AC4 cC4 AU4 cU4 AI4 cI4 AS4 cS4] w1 (RetT w1 (fun b => OffT b t.aged AC4 AU4 AI4 AS4) u (fun v => v)) by rw [← hu.out]; exact settle_to hpa.out tr4.out)
  go_wp2_with fail
  go_at_call 44
  (with_reducible refine (hst4.out).mono ?_)
  rintro e w2 ⟨AC5, cC5, AU5, cU5, AI5, cI5, AS5, cS5, rfl, tr5, hb2, of5⟩
  have hsz5 := Lib.hid hb2.size
  have I_w2 := Lib.hid (I_w1.out.below hb2)
  have X_w2 := Lib.hid (X_w1.out.below hb2)
  have z0_w2 : w.heap.size < w2.heap.size := Nat.lt_of_lt_of_le z0_w1 hb2.size
  have B_w2 := bt B_w1 hb2
  clear I_w1 X_w1 z0_w1 B_w1 hb2
  replace tr5 := Lib.hid tr5
  replace of5 := Lib.hid of5
  have o_I_0 := I_w2.out.c (i := 0) rfl
  have o_I_1 := I_w2.out.c (i := 1) rfl
  have o_I_2 := I_w2.out.c (i := 2) rfl
  have o_I_3 := I_w2.out.c (i := 3) rfl
  have o_I_4 := I_w2.out.c (i := 4) rfl
  have o_I_5 := I_w2.out.c (i := 5) rfl
  have o_I_6 := I_w2.out.c (i := 6) rfl
  have p_I_0 := I_w2.out.f 0
  have p_I_1 := I_w2.out.f 1
  have p_I_2 := I_w2.out.f 2
  have p_I_3 := I_w2.out.f 3
  have p_I_4 := I_w2.out.f 4
  have p_I_5 := I_w2.out.f 5
  have p_I_6 := I_w2.out.f 6
  go_upto_region 2 with fail
  clear o_I_0 o_I_1 o_I_2 o_I_3 o_I_4 o_I_5 o_I_6 p_I_0 p_I_1 p_I_2 p_I_3 p_I_4 p_I_5 p_I_6
  obtain ⟨w6, hw6⟩ : ∃ W, W = set7 w2 w.heap.size (.int .i64 u.self.id) (.slice AC5 u.self.costs.length cC5) (.slice AU5 u.self.ups.length cU5) (.slice AI5 u.self.infos.length cI5) (.slice AS5 u.states.length cS5) (.int .i64 u.mx) (.int .i64 u.dl) := ⟨_, rfl⟩
  have S6 := Lib.hid (show Bx w6 w.heap.size 29 #[.int .i64 u.self.id, .slice AC5 u.self.costs.length cC5, .slice AU5 u.self.ups.length cU5, .slice AI5 u.self.infos.length cI5, .slice AS5 u.states.length cS5, .int .i64 u.mx, .int .i64 u.dl] by rw [hw6]; exact set7_bx I_w2.out.x)
  have X6 := Lib.hid (show Bx w6 (w.heap.size + 1) 29 #[.int .i64 0, .slice none 0 0, .slice none 0 0, .slice none 0 0, .slice none 0 0, .int .i64 0, .int .i64 0] by rw [hw6]; exact set7_oth X_w2.out (Nat.succ_ne_self _))
  have ss6 := Lib.hid (show Sets w.heap.size w.heap.size w2 w6 by rw [hw6]; exact set7_sets)
  have B6 := Lib.hid (show Below w.heap.size w w6 by rw [hw6]; exact set7_bel B_w2 (Nat.le_refl _))
  have of6 := Lib.hid (show ∀ b, OffT b t AC AU AI AS → b < w0.heap.size → OffT b u AC5 AU5 AI5 AS5 from fun b h hb => of5.out b (by have := hsz4.out; omega) (of4.out b hb h))
  have T6 := Lib.hid (show TreeR w6 u AC5 cC5 AU5 cU5 AI5 cI5 AS5 cS5 from ss6.out.tree tr5.out (of6.out _ (hR0.out.off (Nat.le_refl _)) (by have := n0.out; omega)) (of6.out _ (hR0.out.off (Nat.le_refl _)) (by have := n0.out; omega)))
  have le6 := Lib.hid (show w0.heap.size ≤ w6.heap.size from by have := ss6.out.n; have := hsz4.out; have := hsz5.out; omega)
  unfold set7 at hw6
  rw [← hw6]
  clear hw6 B_w2 z0_w2 I_w2 X_w2
  obtain ⟨w2, hw2⟩ : ∃ W, W = w6.alloc (.cells #[] 80) := ⟨_, rfl⟩
  have b2 : Below w6.heap.size w6 w2 := by rw [hw2]; exact (Below.refl _ _).alloc (Nat.le_refl _) _
  have O2 := Lib.hid (show OwnP w2 w6.heap.size (.slice (some ⟨w6.heap.size, 0, none⟩) 0 0) [] by rw [hw2]; exact own_lit0 w6 _ _ _ (Nat.le_refl _))
  have B2 := Lib.hid b2
  have S2 := Lib.hid (S6.out.below b2)
  have z2 := S2.out.lt
  have s_0 := S2.out.c (i := 0) rfl
  have s_1 := S2.out.c (i := 1) rfl
  have s_2 := S2.out.c (i := 2) rfl
  have s_3 := S2.out.c (i := 3) rfl
  have s_4 := S2.out.c (i := 4) rfl
  have s_5 := S2.out.c (i := 5) rfl
  have s_6 := S2.out.c (i := 6) rfl
  go_upto_region 3 with fail
  rw [← hw2]
  clear hw2 b2
  go_wp2_with fail
  clear z2 s_0 s_1 s_2 s_3 s_4 s_5 s_6
  go_loopw [4, 18] (fun v3 i wr => ∃ (k : Nat) (L : List (Int × Int)), k ≤ u.states.length ∧ i = .int .i64 k ∧ L = u.ticked.states.take k ∧ OwnP wr w6.heap.size v3 L ∧ Below w6.heap.size w6 wr) (fun _ i _ => u.states.length - (intOf i).toNat)
  case atStart => exact ⟨0, [], by omega, rfl, by simp, O2.out, B2.out⟩
  case round =>
    clear O2 B2 S2
    obtain ⟨k, L, hk, rfl, hL, hown, hb⟩ := hrel
    obtain ⟨A3, c3, hv3⟩ := own_form hown
    subst hv3
    have Sr := Lib.hid (S6.out.below hb)
    have Xr := Lib.hid (X6.out.below hb)
    have Tr := Lib.hid (T6.out.below hb)
    by_cases hkn : k < u.states.length
    · obtain ⟨bS, oS, hAS, hbS, q0, q1⟩ := SlP.at_ Tr.out.sts.sl (st_at (t := u) (p := k) hkn)
      subst hAS
      obtain ⟨x, hx⟩ : ∃ x, u.st k = x := ⟨_, rfl⟩
      rw [hx] at q0 q1
      obtain ⟨y, hy⟩ : ∃ y, tickS x.1 x.2 u.dl = y := ⟨_, rfl⟩
      have hgi : u.ticked.states[k]? = some y := by unfold T.ticked; simp only; rw [List.getElem?_map, st_at hkn, hx, ← hy]; rfl
      have hlenL := Lib.hid (show L.length = k by rw [hL, List.length_take, ticked_len]; omega)
      have hkl : (k : Int) < (u.states.length : Int) := by omega
      have hs := Lib.hid (show L ++ [y] = u.ticked.states.take (k + 1) by rw [List.take_add_one, hgi, hL]; rfl)
      have hcT := Lib.hid fun (W : World) => t10_to (x := x) (by rw [← hx]; exact hsts.out k hkn) hy W
      replace hL := Lib.hid hL
      replace hx := Lib.hid hx
      replace hy := Lib.hid hy
      replace hgi := Lib.hid hgi
      replace hown := Lib.hid hown
      replace hb := Lib.hid hb
      have zr := Sr.out.lt
      go_upto_region 6 with fail
      obtain ⟨w11, hw11⟩ : ∃ W, W = wr.alloc (.cells #[.int .i64 x.1, .int .i64 x.2] 80) := ⟨_, rfl⟩
      have bw11 : Below wr.heap.size wr w11 := by rw [hw11]; exact (Below.refl _ _).alloc (Nat.le_refl _) _
      have Xw11 : Bx w11 wr.heap.size 80 #[.int .i64 x.1, .int .i64 x.2] := by rw [hw11]; exact Bx.new _ _ _ rfl
      rw [← hw11]
      clear hw11
      have S_w11 := Lib.hid (Sr.out.below bw11)
      have O_w11 := Lib.hid (hown.out.below bw11)
      have N_w11 := Lib.hid (Xw11)
      have z0_w11 : w.heap.size < w11.heap.size := Nat.lt_of_lt_of_le zr bw11.size
      clear Sr hown zr
      have z1_w11 : wr.heap.size < w11.heap.size := Xw11.lt
      clear Xw11
      clear q0 q1 hbS
      have o_S_0 := S_w11.out.c (i := 0) rfl
      have o_S_1 := S_w11.out.c (i := 1) rfl
      have o_S_2 := S_w11.out.c (i := 2) rfl
      have o_S_3 := S_w11.out.c (i := 3) rfl
      have o_S_4 := S_w11.out.c (i := 4) rfl
      have o_S_5 := S_w11.out.c (i := 5) rfl
      have o_S_6 := S_w11.out.c (i := 6) rfl
      have o_N_0 := N_w11.out.c (i := 0) rfl
      have o_N_1 := N_w11.out.c (i := 1) rfl
      go_wp2_with fail
      clear o_S_0 o_S_1 o_S_2 o_S_3 o_S_4 o_S_5 o_S_6 o_N_0 o_N_1
      go_at_call 56
      (with_reducible refine (hcT.out _).mono ?_)
      rintro e w12 ⟨rfl, hb12⟩
      have S_w12 := Lib.hid (S_w11.out.below hb12)
      have O_w12 := Lib.hid (O_w11.out.below hb12)
      have N_w12 := Lib.hid (N_w11.out.below hb12)
      have z0_w12 : w.heap.size < w12.heap.size := Nat.lt_of_lt_of_le z0_w11 hb12.size
      have z1_w12 : wr.heap.size < w12.heap.size := Nat.lt_of_lt_of_le z1_w11 hb12.size
      have B_w12 := bt bw11 hb12
      clear S_w11 O_w11 N_w11 z0_w11 z1_w11 bw11 hb12
      have hbx := Lib.hid (B_w12)
      obtain ⟨w8, hw8⟩ : ∃ W, W = w12.alloc (.cells #[.int .i64 y.1, .int .i64 y.2] 80) := ⟨_, rfl⟩
      have b8 : Below w12.heap.size w12 w8 := by rw [hw8]; exact (Below.refl _ _).alloc (Nat.le_refl _) _
      have hsl := Lib.hid (show Sl w8 2 (some ⟨w12.heap.size, 0, none⟩) ([y].map sc) from bx_sl (T := 80) (vals := #[.int .i64 y.1, .int .i64 y.2]) (by rw [hw8]; exact Bx.new _ _ _ rfl) rfl (by intro c hc; simp at hc; subst hc; rfl))
      have own8 := Lib.hid (O_w12.out.below b8)
      have hb8 := Lib.hid (bt (bt hb.out hbx.out) b8)
      have hn1 : Hid ((L.map sc).length + ([y].map sc).length ≤ 1000000) := Lib.hid (by rw [List.length_map, List.length_map]; have := hlenL.out; simp; omega)
      have hvl : Hid ((L.map sc).length = L.length) := Lib.hid (List.length_map ..)
      have hB2 : Hid (w6.heap.size ≤ w8.heap.size) := Lib.hid hb8.out.size
      clear b8 B_w12
      go_wp2_with (at_builtin; rw [← hw8]; (refine wpList_append_sl rfl (.tmp 22) (.tmp 27) 27 rfl elP (by rfl) own8.out (by rfl) (by rfl) hsl.out (wholeP [y]) (fun h => by cases h) hn1.out hB2.out ?_); intro v' w4 own1 grow1 _)
      have b4 : Below w6.heap.size w6 w4 := hb8.out.grown grow1 hb8.out.size (fun j hj => (own8.out.lt j hj).1)
      go_roundw
      case rel => exact ⟨k + 1, L ++ [y], by omega, by go_num, hs.out, by unfold OwnP; rw [List.map_append]; exact own1, b4⟩
      case measure => simp [intOf]; omega
    · obtain rfl : k = u.states.length := by omega
      obtain rfl : L = u.ticked.states := by rw [hL, List.take_of_length_le (by rw [ticked_len]; exact Nat.le_refl _)]
      clear hL
      have hrow := Lib.hid (rowP hown)
      have hfar := Lib.hid (own_far hown)
      have hbr := Lib.hid (show Below w.heap.size w wr from bt B6.out hb)
      have hlt9 := Lib.hid (show w0.heap.size ≤ wr.heap.size from Nat.le_trans le6.out hb.size)
      replace hown := Lib.hid hown
      replace hb := Lib.hid hb
      have o_0 := Sr.out.c (i := 0) rfl
      have f_0 := Sr.out.f 0
      have o_1 := Sr.out.c (i := 1) rfl
      have f_1 := Sr.out.f 1
      have o_2 := Sr.out.c (i := 2) rfl
      have f_2 := Sr.out.f 2
      have o_3 := Sr.out.c (i := 3) rfl
      have f_3 := Sr.out.f 3
      have o_4 := Sr.out.c (i := 4) rfl
      have f_4 := Sr.out.f 4
      have o_5 := Sr.out.c (i := 5) rfl
      have f_5 := Sr.out.f 5
      have o_6 := Sr.out.c (i := 6) rfl
      have f_6 := Sr.out.f 6
      have zz := Sr.out.lt
      go_upto_region 9 with fail
      clear zz o_0 f_0 o_1 f_1 o_2 f_2 o_3 f_3 o_4 f_4 o_5 f_5 o_6 f_6
      obtain ⟨w9, hw9⟩ : ∃ W, W = wr.setCell ⟨w.heap.size, 4, none⟩ (.slice A3 u.ticked.states.length c3) := ⟨_, rfl⟩
      rw [← hw9]
      have S9 := Lib.hid (show Bx w9 w.heap.size 29 #[.int .i64 u.self.id, .slice AC5 u.self.costs.length cC5, .slice AU5 u.self.ups.length cU5, .slice AI5 u.self.infos.length cI5, .slice A3 u.ticked.states.length c3, .int .i64 u.mx, .int .i64 u.dl] by rw [hw9]; exact Sr.out.set 4 _)
      have X9 := Lib.hid (show Bx w9 (w.heap.size + 1) 29 #[.int .i64 0, .slice none 0 0, .slice none 0 0, .slice none 0 0, .slice none 0 0, .int .i64 0, .int .i64 0] by rw [hw9]; exact Xr.out.other (Nat.succ_ne_self _) _ _)
      have ss9 := Lib.hid (show Sets w.heap.size w.heap.size wr w9 by rw [hw9]; exact Sets.refl.one)
      have B9 := Lib.hid (show Below w.heap.size w w9 by rw [hw9]; exact hbr.out.setCell (Nat.le_refl _) _)
      have off9 := Lib.hid (show ∀ b, OffT b t AC AU AI AS → b < w0.heap.size → OffT b u.ticked AC5 AU5 AI5 A3 from fun b hs hb => ⟨(of6.out b hs hb).c, (of6.out b hs hb).u, (of6.out b hs hb).n, fun _ a ha => by have := hfar.out a ha; have := le6.out; omega⟩)
      have tr9 := Lib.hid (show TreeR w9 u.ticked AC5 cC5 AU5 cU5 AI5 cI5 A3 c3 from ss9.out.tree ⟨Tr.out.self, hrow.out⟩ (off9.out _ (hR0.out.off (Nat.le_refl _)) (by have := n0.out; omega)) (off9.out _ (hR0.out.off (Nat.le_refl _)) (by have := n0.out; omega)))
      have hlt10 := Lib.hid (show w0.heap.size ≤ w9.heap.size from Nat.le_trans hlt9.out (Nat.le_of_eq ss9.out.n.symm))
      clear hw9
      obtain ⟨w2, hw2⟩ : ∃ W, W = w9.alloc (.cells #[] 68) := ⟨_, rfl⟩
      have b2 : Below w9.heap.size w9 w2 := by rw [hw2]; exact (Below.refl _ _).alloc (Nat.le_refl _) _
      have O2 := Lib.hid (show OwnD w2 w9.heap.size (.slice (some ⟨w9.heap.size, 0, none⟩) 0 0) [] by rw [hw2]; exact own_lit0 w9 _ _ _ (Nat.le_refl _))
      have B2 := Lib.hid b2
      have S2 := Lib.hid (S9.out.below b2)
      have z2 := S2.out.lt
      have s_0 := S2.out.c (i := 0) rfl
      have s_1 := S2.out.c (i := 1) rfl
      have s_2 := S2.out.c (i := 2) rfl
      have s_3 := S2.out.c (i := 3) rfl
      have s_4 := S2.out.c (i := 4) rfl
      have s_5 := S2.out.c (i := 5) rfl
      have s_6 := S2.out.c (i := 6) rfl
      go_upto_region 10 with fail
      rw [← hw2]
      clear hw2 b2
      have hkn8 : u.ticked.states.length ≤ 8 := by rw [ticked_len]; exact hu8
      go_wp2_with fail
      clear z2 s_0 s_1 s_2 s_3 s_4 s_5 s_6
      go_loopw [7, 36] (fun v3 i wr => ∃ (k : Nat) (L : List Snd), k ≤ u.ticked.states.length ∧ i = .int .i64 k ∧ L = (List.range k).flatMap u.ticked.send ∧ OwnD wr w9.heap.size v3 L ∧ Below w9.heap.size w9 wr) (fun _ i _ => u.ticked.states.length - (intOf i).toNat)
      case atStart => exact ⟨0, [], by omega, rfl, by simp, O2.out, B2.out⟩
      case round =>
        clear O2 B2 S2 Sr Xr Tr
        obtain ⟨k, L, hk, rfl, hL, hown, hb⟩ := hrel
        obtain ⟨AD, cD, hv3⟩ := own_form hown
        subst hv3
        have Sr := Lib.hid (S9.out.below hb)
        have Xr := Lib.hid (X9.out.below hb)
        have Tr := Lib.hid (tr9.out.below hb)
        have hlenL := Lib.hid (show L.length ≤ k by rw [hL]; exact sends_len _ _)
        by_cases hkn : k < u.ticked.states.length
        · obtain ⟨v, hv⟩ : ∃ v, u.self.told k u.mx = v := ⟨_, rfl⟩
          obtain ⟨n, hn⟩ : ∃ n, u.self.toldAge k u.mx = n := ⟨_, rfl⟩
          obtain ⟨b, hb9⟩ : ∃ b, u.self.tell k u.mx = b := ⟨_, rfl⟩
          have hsend : u.ticked.send k = if b = true then [⟨k, v, n⟩] else [] := by unfold T.send; show (if u.self.tell k u.mx = true then [(⟨k, u.self.told k u.mx, u.self.toldAge k u.mx⟩ : Snd)] else []) = _; rw [hv, hn, hb9]
          have hs := flat_succ u.ticked.send k
          rw [hsend, ← hL] at hs
          have hcT := Lib.hid fun (W : World) (h : SelfR W u.self AC5 cC5 AU5 cU5 AI5 cI5) => tell11_to (w := W) hFit.out (by have := hul.out; rw [ticked_len] at hkn; omega) hv hn hb9 h
          replace hL := Lib.hid hL
          replace hv := Lib.hid hv
          replace hn := Lib.hid hn
          replace hb9 := Lib.hid hb9
          replace hsend := Lib.hid hsend
          replace hown := Lib.hid hown
          replace hb := Lib.hid hb
          have zr := Sr.out.lt
          have o_S_0 := Sr.out.c (i := 0) rfl
          have o_S_1 := Sr.out.c (i := 1) rfl
          have o_S_2 := Sr.out.c (i := 2) rfl
          have o_S_3 := Sr.out.c (i := 3) rfl
          have o_S_4 := Sr.out.c (i := 4) rfl
          have o_S_5 := Sr.out.c (i := 5) rfl
          have o_S_6 := Sr.out.c (i := 6) rfl
          go_wp2_with fail
          clear o_S_0 o_S_1 o_S_2 o_S_3 o_S_4 o_S_5 o_S_6
          go_at_call 57
          (with_reducible refine (hcT.out _ Tr.out.self).mono ?_)
          rintro e w21 ⟨rfl, hb21⟩
          have S_w21 := Lib.hid (Sr.out.below hb21)
          have O_w21 := Lib.hid (hown.out.below hb21)
          have T_w21 := Lib.hid (Tr.out.below hb21)
          have z0_w21 : w.heap.size < w21.heap.size := Nat.lt_of_lt_of_le zr hb21.size
          clear Sr hown Tr zr
          go_upto_region 14 with fail
          obtain ⟨w22, hw22⟩ : ∃ W, W = w21.alloc (.cells #[.int .i64 v.r, .int .i64 v.c, .int .i64 v.b, .int .i64 v.p, .int .i64 n] 33) := ⟨_, rfl⟩
          have bw22 : Below w21.heap.size w21 w22 := by rw [hw22]; exact (Below.refl _ _).alloc (Nat.le_refl _) _
          have Xw22 : Bx w22 w21.heap.size 33 #[.int .i64 v.r, .int .i64 v.c, .int .i64 v.b, .int .i64 v.p, .int .i64 n] := by rw [hw22]; exact Bx.new _ _ _ rfl
          rw [← hw22]
          clear hw22
          have S_w22 := Lib.hid (S_w21.out.below bw22)
          have O_w22 := Lib.hid (O_w21.out.below bw22)
          have T_w22 := Lib.hid (T_w21.out.below bw22)
          have K_w22 := Lib.hid (Xw22)
          have z0_w22 : w.heap.size < w22.heap.size := Nat.lt_of_lt_of_le z0_w21 bw22.size
          have B_w22 := bt hb21 bw22
          clear S_w21 O_w21 T_w21 z0_w21 hb21 bw22
          have z1_w22 : w21.heap.size < w22.heap.size := Xw22.lt
          clear Xw22
          cases b with
          | false =>
            simp only [Bool.false_eq_true, if_false, List.append_nil] at hs
            replace hs := Lib.hid hs
            have hb6 := Lib.hid (bt hb.out B_w22)
            go_wp2_with fail
            go_roundw
            case rel => exact ⟨k + 1, L, by omega, by go_num, hs.out.symm, O_w22.out, hb6.out⟩
            case measure => simp [intOf]; omega
          | true =>
            simp only [if_true] at hs
            replace hs := Lib.hid hs
            have o_K_0 := K_w22.out.c (i := 0) rfl
            have o_K_1 := K_w22.out.c (i := 1) rfl
            have o_K_2 := K_w22.out.c (i := 2) rfl
            have o_K_3 := K_w22.out.c (i := 3) rfl
            have o_K_4 := K_w22.out.c (i := 4) rfl
            have hbx := Lib.hid (B_w22)
            obtain ⟨w8, hw8⟩ : ∃ W, W = w22.alloc (.cells #[.int .i64 k, .int .i64 v.r, .int .i64 v.c, .int .i64 v.b, .int .i64 v.p, .int .i64 n] 68) := ⟨_, rfl⟩
            have b8 : Below w22.heap.size w22 w8 := by rw [hw8]; exact (Below.refl _ _).alloc (Nat.le_refl _) _
            have hsl := Lib.hid (show Sl w8 6 (some ⟨w22.heap.size, 0, none⟩) ([(⟨k, v, n⟩ : Snd)].map Snd.cells) from bx_sl (T := 68) (vals := #[.int .i64 k, .int .i64 v.r, .int .i64 v.c, .int .i64 v.b, .int .i64 v.p, .int .i64 n]) (by rw [hw8]; exact Bx.new _ _ _ rfl) rfl (by intro c hc; simp at hc; subst hc; rfl))
            have own8 := Lib.hid (O_w22.out.below b8)
            have hb8 := Lib.hid (bt (bt hb.out hbx.out) b8)
            have hn1 : Hid ((L.map Snd.cells).length + ([(⟨k, v, n⟩ : Snd)].map Snd.cells).length ≤ 1000000) := Lib.hid (by rw [List.length_map, List.length_map]; have := hlenL.out; simp; omega)
            have hvl : Hid ((L.map Snd.cells).length = L.length) := Lib.hid (List.length_map ..)
            have hB2 : Hid (w9.heap.size ≤ w8.heap.size) := Lib.hid hb8.out.size
            clear b8 B_w22
            go_wp2_with (at_builtin; rw [← hw8]; (refine wpList_append_sl rfl (.tmp 49) (.tmp 53) 48 rfl elD (by rfl) own8.out (by rfl) (by rfl) hsl.out (wholeD [(⟨k, v, n⟩ : Snd)]) (fun h => by cases h) hn1.out hB2.out ?_); intro v' w4 own1 grow1 _)
            have b4 : Below w9.heap.size w9 w4 := hb8.out.grown grow1 hb8.out.size (fun j hj => (own8.out.lt j hj).1)
            go_roundw
            case rel => exact ⟨k + 1, L ++ [(⟨k, v, n⟩ : Snd)], by omega, by go_num, hs.out.symm, by unfold OwnD; rw [List.map_append]; exact own1, b4⟩
            case measure => simp [intOf]; omega
        · obtain rfl : k = u.ticked.states.length := by omega
          obtain rfl : L = u.ticked.sends := hL
          have hrD := Lib.hid (rowD hown)
          have hfD := Lib.hid (own_far hown)
          have hbw := Lib.hid (show Below w.heap.size w wr from bt B9.out hb)
          replace hown := Lib.hid hown
          replace hb := Lib.hid hb
          have o_0 := Sr.out.c (i := 0) rfl
          have o_X_0 := Xr.out.c (i := 0) rfl
          have f_0 := Xr.out.f 0
          have o_1 := Sr.out.c (i := 1) rfl
          have o_X_1 := Xr.out.c (i := 1) rfl
          have f_1 := Xr.out.f 1
          have o_2 := Sr.out.c (i := 2) rfl
          have o_X_2 := Xr.out.c (i := 2) rfl
          have f_2 := Xr.out.f 2
          have o_3 := Sr.out.c (i := 3) rfl
          have o_X_3 := Xr.out.c (i := 3) rfl
          have f_3 := Xr.out.f 3
          have o_4 := Sr.out.c (i := 4) rfl
          have o_X_4 := Xr.out.c (i := 4) rfl
          have f_4 := Xr.out.f 4
          have o_5 := Sr.out.c (i := 5) rfl
          have o_X_5 := Xr.out.c (i := 5) rfl
          have f_5 := Xr.out.f 5
          have o_6 := Sr.out.c (i := 6) rfl
          have o_X_6 := Xr.out.c (i := 6) rfl
          have f_6 := Xr.out.f 6
          have zz := Sr.out.lt
          have zx := Xr.out.lt
          go_wp2_with fail
          refine bodyPost_ret (v := .tuple #[.agg #[.int .i64 u.self.id, .slice AC5 u.self.costs.length cC5, .slice AU5 u.self.ups.length cU5, .slice AI5 u.self.infos.length cI5, .slice A3 u.ticked.states.length c3, .int .i64 u.mx, .int .i64 u.dl], .slice AD u.ticked.sends.length cD]) (by simp [results, Try.results19, go_sem, o_X_0, o_X_1, o_X_2, o_X_3, o_X_4, o_X_5, o_X_6]) rfl ?_
          refine fin_td (c := 1) (n := w0.heap.size) (t' := u.ticked) (l := u.ticked.sends) (wr := wr) (AC := AC5) (cC := cC5) (AU := AU5) (cU := cU5) (AI := AI5) (cI := cI5) (AS := A3) (cS := c3) (AD := AD) (cD := cD) (mk := fun v l => .tuple #[v, l]) ?hss hbw.out (by have := n0.out; omega) rfl Tr.out hrD.out (fun a ha => by have := hfD.out a ha; have := hlt10.out; omega) (fun b hb => hR0.out.off hb) off9.out
          case hss => repeat (first | with_reducible exact Sets.refl | with_reducible refine Sets.two ?_ | with_reducible refine Sets.one ?_)
end Go.Proofs.Ytidoaccidmmalaa.StpP

/-
  Contracts: two trees that are the same, two rows of what goes out; the ports that forward.
-/
namespace Go.Proofs.Ytidoaccidmmalaa.StpP
open Go.Proofs.Ytidoaccidmmalaa.MacP (arr_out Wrote wp_region_ends outM)
open Go.RowKit Go.Sort Go.Proofs.Ytidoaccidmmalaa.SliceP Go.Proofs.Ytidoaccidmmalaa.BoxP Go.Proofs.Ytidoaccidmmalaa.VecP Go.Proofs.Ytidoaccidmmalaa.RoleP
open Go.Proofs.Ytidoaccidmmalaa.IntP (RowI SlI OwnI)
open Go.Proofs.Ytidoaccidmmalaa.BoolP (RowB SlB OwnB)
open Go.Proofs.Ytidoaccidmmalaa.PortP (okS roleS tickS sv)
set_option linter.unusedVariables false
set_option maxRecDepth 100000
section
open Go.Proofs.Ytidoaccidmmalaa.IntP
set_option maxHeartbeats 2000000 in
theorem same_ints {A B : Option Addr} {n c1 m c2 : Nat} {l l' : List Int} {w : World} (hA : RowI w A n c1 l) (hB : RowI w B m c2 l') (he : l = l') (hl : l.length ≤ 1000) :
    Calls Try.prog 21 #[.slice A n c1, .slice B m c2] w fun e w' => e = .returned (.bool true) ∧ Below w.heap.size w w' := by
  subst he
  obtain ⟨rfl, hA, _, _⟩ := hA
  obtain ⟨rfl, hB, _, _⟩ := hB
  have HA := Lib.hid hA
  have HB := Lib.hid hB
  clear hA hB
  go_enter Try.func21, Try.ntmps21
  go_wp2_with fail
  go_loopw [13] (fun i wr => ∃ k : Nat, k ≤ l.length ∧ i = .int .i64 k ∧ Below w.heap.size w wr) (fun i _ => l.length - (intOf i).toNat)
  case atStart => exact ⟨0, by omega, rfl, Below.refl _ _⟩
  case round =>
    obtain ⟨k, hk, rfl, hbr⟩ := hrel
    by_cases hlt : k < l.length
    case neg =>
      obtain rfl : k = l.length := by omega
      go_wp2_with fail
      go_ret
      exact ⟨rfl, hbr⟩
    obtain ⟨x, hx⟩ : ∃ x, l[k]? = some x := ⟨_, List.getElem?_eq_getElem hlt⟩
    obtain ⟨b, o, rfl, hbw, x0⟩ := SlI.at_ HA.out hx
    obtain ⟨g, o2, rfl, hgw, y0⟩ := SlI.at_ HB.out hx
    clear hx
    replace x0 := (hbr.cell (p := ⟨b, _, none⟩) hbw).trans x0
    replace y0 := (hbr.cell (p := ⟨g, _, none⟩) hgw).trans y0
    go_wp2_with fail
    have K_x0 := cell_regrown x0
    have K_y0 := cell_regrown y0
    clear x0 y0
    refine wp_region_quiet_below (by kernel_rfl) (by kernel_rfl) ?_
    repeat (first | go_big_quiet_step (fail) | quiet_step (fail))
    refine wpQuiet_nil ?_
    intro _ hw'
    obtain ⟨⟨dq, osq⟩, hw''⟩ := hw'
    subst hw''
    have hbW1 := below_regrown wr dq osq
    clear K_x0 K_y0
    have BW1 : Below w.heap.size w (Go.Sort.grow (redrawn wr dq) osq) := hbr.trans (hbW1.mono hbr.size)
    clear hbW1 hbr
    generalize Go.Sort.grow (redrawn wr dq) osq = W1 at *
    go_wp2_with fail
    go_roundw
    case rel => exact ⟨k + 1, by omega, by go_num, BW1⟩
    case measure => simp [intOf]; omega
end

theorem neq_nn (x : N) (w : World) : (binOp .neq 66 (nv x.has x.v.r x.v.c x.v.b x.v.p x.age) (nv x.has x.v.r x.v.c x.v.b x.v.p x.age)).run Try.prog w = .ok (.bool false) w := by
  obtain ⟨h, ⟨r, c, b, p⟩, a⟩ := x
  cases h <;> go_simp
theorem neq_pp (x : Int × Int) (w : World) : (binOp .neq 80 (.agg #[.int .i64 x.1, .int .i64 x.2]) (.agg #[.int .i64 x.1, .int .i64 x.2])).run Try.prog w = .ok (.bool false) w := by go_simp
theorem neq_dd (x : Snd) (w : World) : (binOp .neq 68 (dv x.port x.v.r x.v.c x.v.b x.v.p x.age) (dv x.port x.v.r x.v.c x.v.b x.v.p x.age)).run Try.prog w = .ok (.bool false) w := by go_simp
theorem neq_bb (x : Bool) : (x != x) = false := by cases x <;> rfl
/-- Two bridges' boxes, and their rows. -/
structure InD (w W : World) (s : S) (A1 : Option Addr) (c1 : Nat) (U1 : Option Addr) (u1 : Nat) (I1 : Option Addr) (i1 : Nat) (A2 : Option Addr) (c2 : Nat) (U2 : Option Addr) (u2 : Nat) (I2 : Option Addr) (i2 : Nat) : Prop where
  b : Below w.heap.size w W
  x : Bx W w.heap.size 26 #[.int .i64 s.id, .slice A1 s.costs.length c1, .slice U1 s.ups.length u1, .slice I1 s.infos.length i1]
  y : Bx W (w.heap.size + 1) 26 #[.int .i64 s.id, .slice A2 s.costs.length c2, .slice U2 s.ups.length u2, .slice I2 s.infos.length i2]
  r : SelfR W s A1 c1 U1 u1 I1 i1
  q : SelfR W s A2 c2 U2 u2 I2 i2
theorem InD.below {w W W' : World} {s : S} {A1 : Option Addr} {c1 : Nat} {U1 : Option Addr} {u1 : Nat} {I1 : Option Addr} {i1 : Nat} {A2 : Option Addr} {c2 : Nat} {U2 : Option Addr} {u2 : Nat} {I2 : Option Addr} {i2 : Nat} (h : InD w W s A1 c1 U1 u1 I1 i1 A2 c2 U2 u2 I2 i2) (hb : Below W.heap.size W W') : InD w W' s A1 c1 U1 u1 I1 i1 A2 c2 U2 u2 I2 i2 := ⟨bt h.b hb, h.x.below hb, h.y.below hb, h.r.below hb, h.q.below hb⟩
set_option maxHeartbeats 8000000 in
theorem r11_same {s : S} {A1 : Option Addr} {c1 : Nat} {U1 : Option Addr} {u1 : Nat} {I1 : Option Addr} {i1 : Nat} {A2 : Option Addr} {c2 : Nat} {U2 : Option Addr} {u2 : Nat} {I2 : Option Addr} {i2 : Nat} {w : World} (hl : s.costs.length ≤ 1000 ∧ s.ups.length ≤ 1000 ∧ s.infos.length ≤ 1000) (h1 : SelfR w s A1 c1 U1 u1 I1 i1) (h2 : SelfR w s A2 c2 U2 u2 I2 i2) :
    Calls Try.prog 45 #[selfV s.id (.slice A1 s.costs.length c1) (.slice U1 s.ups.length u1) (.slice I1 s.infos.length i1), selfV s.id (.slice A2 s.costs.length c2) (.slice U2 s.ups.length u2) (.slice I2 s.infos.length i2)] w fun e w' => e = .returned (.bool true) ∧ Below w.heap.size w w' := by
  obtain ⟨w0, hw0⟩ : ∃ W, W = (w.alloc (.cells #[.int .i64 s.id, .slice A1 s.costs.length c1, .slice U1 s.ups.length u1, .slice I1 s.infos.length i1] 26)).alloc (.cells #[.int .i64 s.id, .slice A2 s.costs.length c2, .slice U2 s.ups.length u2, .slice I2 s.infos.length i2] 26) := ⟨_, rfl⟩
  have b0 : Below w.heap.size w w0 := by rw [hw0]; exact ((Below.refl _ _).alloc (Nat.le_refl _) _).alloc (by simp) _
  have D := Lib.hid (show InD w w0 s A1 c1 U1 u1 I1 i1 A2 c2 U2 u2 I2 i2 from ⟨b0, by rw [hw0]; exact (Bx.new _ _ _ rfl).alloc _, by rw [hw0]; exact Bx.new _ _ _ (by simp), h1.below b0, h2.below b0⟩)
  obtain ⟨hl1, hl2, hl3⟩ := hl
  clear h1 h2 b0
  go_enter Try.func45, Try.ntmps45
  go_upto_region 1 with fail
  rw [← hw0]
  clear hw0
  have x0 := D.out.x.c (i := 0) rfl
  have x1 := D.out.x.c (i := 1) rfl
  have x2 := D.out.x.c (i := 2) rfl
  have x3 := D.out.x.c (i := 3) rfl
  have y0 := D.out.y.c (i := 0) rfl
  have y1 := D.out.y.c (i := 1) rfl
  have y2 := D.out.y.c (i := 2) rfl
  have y3 := D.out.y.c (i := 3) rfl
  have zx := D.out.x.lt
  have zy := Lib.hid D.out.y.lt
  go_wp2_with fail
  clear x0 x1 x2 x3 y0 y1 y2 y3 zx zy
  go_loopw [43] (fun i wr => ∃ k : Nat, k ≤ s.costs.length ∧ i = .int .i64 k ∧ InD w wr s A1 c1 U1 u1 I1 i1 A2 c2 U2 u2 I2 i2) (fun i _ => s.costs.length - (intOf i).toNat)
  case atStart => exact ⟨0, by omega, rfl, D.out⟩
  case round =>
    clear D
    obtain ⟨k, hk, rfl, I⟩ := hrel
    by_cases hkn : k < s.costs.length
    · have hkl : (k : Int) < (s.costs.length : Int) := by omega
      obtain ⟨b1, o1, rfl, hb1, q⟩ := IntP.SlI.at_ I.r.costs.sl (cost_at hkn)
      obtain ⟨b2, o2, rfl, hb2, p⟩ := IntP.SlI.at_ I.q.costs.sl (cost_at hkn)
      generalize s.cost k = x9 at *
      go_upto_region 6 with fail
      have K_q := cell_regrown q
      have K_p := cell_regrown p
      have X0 := cell_regrown (I.x.c (i := 0) rfl)
      have Y0 := cell_regrown (I.y.c (i := 0) rfl)
      have X1 := cell_regrown (I.x.c (i := 1) rfl)
      have Y1 := cell_regrown (I.y.c (i := 1) rfl)
      have X2 := cell_regrown (I.x.c (i := 2) rfl)
      have Y2 := cell_regrown (I.y.c (i := 2) rfl)
      have X3 := cell_regrown (I.x.c (i := 3) rfl)
      have Y3 := cell_regrown (I.y.c (i := 3) rfl)
      replace I := Lib.hid I
      clear q p hb1 hb2
      refine wp_region_quiet_below (by kernel_rfl) (by kernel_rfl) ?_
      repeat (first | go_big_quiet_step (fail) | quiet_step (fail))
      refine wpQuiet_nil ?_
      intro _ hw'
      obtain ⟨⟨dq, osq⟩, hw''⟩ := hw'
      subst hw''
      have bq := below_regrown wr dq osq
      clear K_q K_p X0 Y0 X1 Y1 X2 Y2 X3 Y3
      generalize Go.Sort.grow (redrawn wr dq) osq = W1 at *
      have I1 := Lib.hid (I.out.below bq)
      go_wp2_with fail
      go_roundw
      case rel => exact ⟨k + 1, by omega, by go_num, I1.out⟩
      case measure => simp [intOf]; omega
    · obtain rfl : k = s.costs.length := by omega
      have D := Lib.hid I
      clear I
      have x0 := D.out.x.c (i := 0) rfl
      have x1 := D.out.x.c (i := 1) rfl
      have x2 := D.out.x.c (i := 2) rfl
      have x3 := D.out.x.c (i := 3) rfl
      have y0 := D.out.y.c (i := 0) rfl
      have y1 := D.out.y.c (i := 1) rfl
      have y2 := D.out.y.c (i := 2) rfl
      have y3 := D.out.y.c (i := 3) rfl
      have zx := D.out.x.lt
      have zy := Lib.hid D.out.y.lt
      go_wp2_with fail
      clear x0 x1 x2 x3 y0 y1 y2 y3 zx zy
      go_loopw [61] (fun i wr => ∃ k : Nat, k ≤ s.ups.length ∧ i = .int .i64 k ∧ InD w wr s A1 c1 U1 u1 I1 i1 A2 c2 U2 u2 I2 i2) (fun i _ => s.ups.length - (intOf i).toNat)
      case atStart => exact ⟨0, by omega, rfl, D.out⟩
      case round =>
        clear D
        obtain ⟨k, hk, rfl, I⟩ := hrel
        by_cases hkn : k < s.ups.length
        · have hkl : (k : Int) < (s.ups.length : Int) := by omega
          obtain ⟨b1, o1, rfl, hb1, q⟩ := BoolP.SlB.at_ I.r.ups.sl (up_at hkn)
          obtain ⟨b2, o2, rfl, hb2, p⟩ := BoolP.SlB.at_ I.q.ups.sl (up_at hkn)
          have hbb := neq_bb (s.up k)
          generalize s.up k = x9 at *
          go_upto_region 12 with fail
          have K_q := cell_regrown q
          have K_p := cell_regrown p
          have X0 := cell_regrown (I.x.c (i := 0) rfl)
          have Y0 := cell_regrown (I.y.c (i := 0) rfl)
          have X1 := cell_regrown (I.x.c (i := 1) rfl)
          have Y1 := cell_regrown (I.y.c (i := 1) rfl)
          have X2 := cell_regrown (I.x.c (i := 2) rfl)
          have Y2 := cell_regrown (I.y.c (i := 2) rfl)
          have X3 := cell_regrown (I.x.c (i := 3) rfl)
          have Y3 := cell_regrown (I.y.c (i := 3) rfl)
          replace I := Lib.hid I
          clear q p hb1 hb2
          refine wp_region_quiet_below (by kernel_rfl) (by kernel_rfl) ?_
          repeat (first | go_big_quiet_step (fail) | quiet_step (fail))
          refine wpQuiet_nil ?_
          intro _ hw'
          obtain ⟨⟨dq, osq⟩, hw''⟩ := hw'
          subst hw''
          have bq := below_regrown wr dq osq
          clear K_q K_p X0 Y0 X1 Y1 X2 Y2 X3 Y3
          generalize Go.Sort.grow (redrawn wr dq) osq = W1 at *
          have I1 := Lib.hid (I.out.below bq)
          go_wp2_with fail
          go_roundw
          case rel => exact ⟨k + 1, by omega, by go_num, I1.out⟩
          case measure => simp [intOf]; omega
        · obtain rfl : k = s.ups.length := by omega
          have D := Lib.hid I
          clear I
          have x0 := D.out.x.c (i := 0) rfl
          have x1 := D.out.x.c (i := 1) rfl
          have x2 := D.out.x.c (i := 2) rfl
          have x3 := D.out.x.c (i := 3) rfl
          have y0 := D.out.y.c (i := 0) rfl
          have y1 := D.out.y.c (i := 1) rfl
          have y2 := D.out.y.c (i := 2) rfl
          have y3 := D.out.y.c (i := 3) rfl
          have zx := D.out.x.lt
          have zy := Lib.hid D.out.y.lt
          go_wp2_with fail
          clear x0 x1 x2 x3 y0 y1 y2 y3 zx zy
          go_loopw [79] (fun i wr => ∃ k : Nat, k ≤ s.infos.length ∧ i = .int .i64 k ∧ InD w wr s A1 c1 U1 u1 I1 i1 A2 c2 U2 u2 I2 i2) (fun i _ => s.infos.length - (intOf i).toNat)
          case atStart => exact ⟨0, by omega, rfl, D.out⟩
          case round =>
            clear D
            obtain ⟨k, hk, rfl, I⟩ := hrel
            by_cases hkn : k < s.infos.length
            · have hkl : (k : Int) < (s.infos.length : Int) := by omega
              obtain ⟨b1, o1, rfl, hb1, q0, q1, q2, q3, q4, q5⟩ := SlN.at_ I.r.infos.sl (info_at hkn)
              obtain ⟨b2, o2, rfl, hb2, p0, p1, p2, p3, p4, p5⟩ := SlN.at_ I.q.infos.sl (info_at hkn)
              have hnn := neq_nn (s.info k)
              generalize s.info k = x9 at *
              go_upto_region 18 with fail
              have K_q0 := cell_regrown q0
              have K_q1 := cell_regrown q1
              have K_q2 := cell_regrown q2
              have K_q3 := cell_regrown q3
              have K_q4 := cell_regrown q4
              have K_q5 := cell_regrown q5
              have K_p0 := cell_regrown p0
              have K_p1 := cell_regrown p1
              have K_p2 := cell_regrown p2
              have K_p3 := cell_regrown p3
              have K_p4 := cell_regrown p4
              have K_p5 := cell_regrown p5
              have X0 := cell_regrown (I.x.c (i := 0) rfl)
              have Y0 := cell_regrown (I.y.c (i := 0) rfl)
              have X1 := cell_regrown (I.x.c (i := 1) rfl)
              have Y1 := cell_regrown (I.y.c (i := 1) rfl)
              have X2 := cell_regrown (I.x.c (i := 2) rfl)
              have Y2 := cell_regrown (I.y.c (i := 2) rfl)
              have X3 := cell_regrown (I.x.c (i := 3) rfl)
              have Y3 := cell_regrown (I.y.c (i := 3) rfl)
              replace I := Lib.hid I
              clear q0 q1 q2 q3 q4 q5 p0 p1 p2 p3 p4 p5 hb1 hb2
              refine wp_region_quiet_below (by kernel_rfl) (by kernel_rfl) ?_
              repeat (first | go_big_quiet_step (fail) | quiet_step (fail))
              refine wpQuiet_nil ?_
              intro _ hw'
              obtain ⟨⟨dq, osq⟩, hw''⟩ := hw'
              subst hw''
              have bq := below_regrown wr dq osq
              clear K_q0 K_q1 K_q2 K_q3 K_q4 K_q5 K_p0 K_p1 K_p2 K_p3 K_p4 K_p5 X0 Y0 X1 Y1 X2 Y2 X3 Y3
              generalize Go.Sort.grow (redrawn wr dq) osq = W1 at *
              have I1 := Lib.hid (I.out.below bq)
              go_wp2_with fail
              go_roundw
              case rel => exact ⟨k + 1, by omega, by go_num, I1.out⟩
              case measure => simp [intOf]; omega
            · obtain rfl : k = s.infos.length := by omega
              replace I := Lib.hid I
              go_wp2_with fail
              go_ret
              exact ⟨rfl, I.out.b⟩
/-- Two trees' boxes, and their rows. -/
structure InE (w W : World) (t : T) (A1 : Option Addr) (c1 : Nat) (U1 : Option Addr) (u1 : Nat) (I1 : Option Addr) (i1 : Nat) (S1 : Option Addr) (s1 : Nat) (A2 : Option Addr) (c2 : Nat) (U2 : Option Addr) (u2 : Nat) (I2 : Option Addr) (i2 : Nat) (S2 : Option Addr) (s2 : Nat) : Prop where
  b : Below w.heap.size w W
  x : Bx W w.heap.size 29 #[.int .i64 t.self.id, .slice A1 t.self.costs.length c1, .slice U1 t.self.ups.length u1, .slice I1 t.self.infos.length i1, .slice S1 t.states.length s1, .int .i64 t.mx, .int .i64 t.dl]
  y : Bx W (w.heap.size + 1) 29 #[.int .i64 t.self.id, .slice A2 t.self.costs.length c2, .slice U2 t.self.ups.length u2, .slice I2 t.self.infos.length i2, .slice S2 t.states.length s2, .int .i64 t.mx, .int .i64 t.dl]
  r : TreeR W t A1 c1 U1 u1 I1 i1 S1 s1
  q : TreeR W t A2 c2 U2 u2 I2 i2 S2 s2
theorem InE.below {w W W' : World} {t : T} {A1 : Option Addr} {c1 : Nat} {U1 : Option Addr} {u1 : Nat} {I1 : Option Addr} {i1 : Nat} {S1 : Option Addr} {s1 : Nat} {A2 : Option Addr} {c2 : Nat} {U2 : Option Addr} {u2 : Nat} {I2 : Option Addr} {i2 : Nat} {S2 : Option Addr} {s2 : Nat} (h : InE w W t A1 c1 U1 u1 I1 i1 S1 s1 A2 c2 U2 u2 I2 i2 S2 s2) (hb : Below W.heap.size W W') : InE w W' t A1 c1 U1 u1 I1 i1 S1 s1 A2 c2 U2 u2 I2 i2 S2 s2 := ⟨bt h.b hb, h.x.below hb, h.y.below hb, h.r.below hb, h.q.below hb⟩
set_option maxHeartbeats 8000000 in
theorem r12_same {t : T} {A1 : Option Addr} {c1 : Nat} {U1 : Option Addr} {u1 : Nat} {I1 : Option Addr} {i1 : Nat} {S1 : Option Addr} {s1 : Nat} {A2 : Option Addr} {c2 : Nat} {U2 : Option Addr} {u2 : Nat} {I2 : Option Addr} {i2 : Nat} {S2 : Option Addr} {s2 : Nat} {w : World} (hl : Len t) (h1 : TreeR w t A1 c1 U1 u1 I1 i1 S1 s1) (h2 : TreeR w t A2 c2 U2 u2 I2 i2 S2 s2) :
    Calls Try.prog 13 #[tv t A1 c1 U1 u1 I1 i1 S1 s1, tv t A2 c2 U2 u2 I2 i2 S2 s2] w fun e w' => e = .returned (.bool true) ∧ Below w.heap.size w w' := by
  obtain ⟨w0, hw0⟩ : ∃ W, W = (w.alloc (.cells #[.int .i64 t.self.id, .slice A1 t.self.costs.length c1, .slice U1 t.self.ups.length u1, .slice I1 t.self.infos.length i1, .slice S1 t.states.length s1, .int .i64 t.mx, .int .i64 t.dl] 29)).alloc (.cells #[.int .i64 t.self.id, .slice A2 t.self.costs.length c2, .slice U2 t.self.ups.length u2, .slice I2 t.self.infos.length i2, .slice S2 t.states.length s2, .int .i64 t.mx, .int .i64 t.dl] 29) := ⟨_, rfl⟩
  have b0 : Below w.heap.size w w0 := by rw [hw0]; exact ((Below.refl _ _).alloc (Nat.le_refl _) _).alloc (by simp) _
  have D := Lib.hid (show InE w w0 t A1 c1 U1 u1 I1 i1 S1 s1 A2 c2 U2 u2 I2 i2 S2 s2 from ⟨b0, by rw [hw0]; exact (Bx.new _ _ _ rfl).alloc _, by rw [hw0]; exact Bx.new _ _ _ (by simp), h1.below b0, h2.below b0⟩)
  obtain ⟨hl1, hl2, hl3, hl4⟩ := hl
  clear h1 h2 b0
  have hc := Lib.hid (r11_same ⟨hl1, hl2, hl3⟩ D.out.r.self D.out.q.self)
  go_enter Try.func13, Try.ntmps13
  go_wp2_with fail
  rw [← hw0]
  clear hw0
  go_at_call 45
  (with_reducible refine hc.out.mono ?_)
  rintro e w1 ⟨rfl, hb1⟩
  have D1 := Lib.hid (D.out.below hb1)
  clear D hb1 hc
  have x0 := D1.out.x.c (i := 0) rfl
  have x1 := D1.out.x.c (i := 1) rfl
  have x2 := D1.out.x.c (i := 2) rfl
  have x3 := D1.out.x.c (i := 3) rfl
  have x4 := D1.out.x.c (i := 4) rfl
  have x5 := D1.out.x.c (i := 5) rfl
  have x6 := D1.out.x.c (i := 6) rfl
  have y0 := D1.out.y.c (i := 0) rfl
  have y1 := D1.out.y.c (i := 1) rfl
  have y2 := D1.out.y.c (i := 2) rfl
  have y3 := D1.out.y.c (i := 3) rfl
  have y4 := D1.out.y.c (i := 4) rfl
  have y5 := D1.out.y.c (i := 5) rfl
  have y6 := D1.out.y.c (i := 6) rfl
  have zx := D1.out.x.lt
  have zy := Lib.hid D1.out.y.lt
  go_wp2_with fail
  clear x0 y0 x1 y1 x2 y2 x3 y3 x4 y4 x5 y5 x6 y6 zx zy
  go_loopw [38] (fun i wr => ∃ k : Nat, k ≤ t.states.length ∧ i = .int .i64 k ∧ InE w wr t A1 c1 U1 u1 I1 i1 S1 s1 A2 c2 U2 u2 I2 i2 S2 s2) (fun i _ => t.states.length - (intOf i).toNat)
  case atStart => exact ⟨0, by omega, rfl, D1.out⟩
  case round =>
    clear D1
    obtain ⟨k, hk, rfl, I⟩ := hrel
    by_cases hkn : k < t.states.length
    · have hkl : (k : Int) < (t.states.length : Int) := by omega
      obtain ⟨b1, o1, rfl, hb1, q0, q1⟩ := SlP.at_ I.r.sts.sl (st_at hkn)
      obtain ⟨b2, o2, rfl, hb2, p0, p1⟩ := SlP.at_ I.q.sts.sl (st_at hkn)
      have hnn := neq_pp (t.st k)
      generalize t.st k = x9 at *
      go_upto_region 6 with fail
      have K0 := cell_regrown q0
      have K1 := cell_regrown q1
      have K2 := cell_regrown p0
      have K3 := cell_regrown p1
      have X0 := cell_regrown (I.x.c (i := 0) rfl)
      have Y0 := cell_regrown (I.y.c (i := 0) rfl)
      have X1 := cell_regrown (I.x.c (i := 1) rfl)
      have Y1 := cell_regrown (I.y.c (i := 1) rfl)
      have X2 := cell_regrown (I.x.c (i := 2) rfl)
      have Y2 := cell_regrown (I.y.c (i := 2) rfl)
      have X3 := cell_regrown (I.x.c (i := 3) rfl)
      have Y3 := cell_regrown (I.y.c (i := 3) rfl)
      have X4 := cell_regrown (I.x.c (i := 4) rfl)
      have Y4 := cell_regrown (I.y.c (i := 4) rfl)
      have X5 := cell_regrown (I.x.c (i := 5) rfl)
      have Y5 := cell_regrown (I.y.c (i := 5) rfl)
      have X6 := cell_regrown (I.x.c (i := 6) rfl)
      have Y6 := cell_regrown (I.y.c (i := 6) rfl)
      replace I := Lib.hid I
      clear q0 q1 p0 p1 hb1 hb2
      refine wp_region_quiet_below (by kernel_rfl) (by kernel_rfl) ?_
      repeat (first | go_big_quiet_step (fail) | quiet_step (fail))
      refine wpQuiet_nil ?_
      intro _ hw'
      obtain ⟨⟨dq, osq⟩, hw''⟩ := hw'
      subst hw''
      have bq := below_regrown wr dq osq
      clear K0 K1 K2 K3 X0 Y0 X1 Y1 X2 Y2 X3 Y3 X4 Y4 X5 Y5 X6 Y6
      generalize Go.Sort.grow (redrawn wr dq) osq = W1 at *
      have I1 := Lib.hid (I.out.below bq)
      go_wp2_with fail
      go_roundw
      case rel => exact ⟨k + 1, by omega, by go_num, I1.out⟩
      case measure => simp [intOf]; omega
    · obtain rfl : k = t.states.length := by omega
      replace I := Lib.hid I
      go_wp2_with fail
      go_ret
      exact ⟨rfl, I.out.b⟩
set_option maxHeartbeats 4000000 in
theorem r_sends {A B : Option Addr} {c1 c2 : Nat} {l : List Snd} {w : World} (hA : RowD w A l.length c1 l) (hB : RowD w B l.length c2 l) (hl : l.length ≤ 1000) :
    Calls Try.prog 20 #[.slice A l.length c1, .slice B l.length c2] w fun e w' => e = .returned (.bool true) ∧ Below w.heap.size w w' := by
  obtain ⟨_, hA, _, _⟩ := hA
  obtain ⟨_, hB, _, _⟩ := hB
  have HA := Lib.hid hA
  have HB := Lib.hid hB
  clear hA hB
  go_enter Try.func20, Try.ntmps20
  go_wp2_with fail
  go_loopw [13] (fun i wr => ∃ k : Nat, k ≤ l.length ∧ i = .int .i64 k ∧ Below w.heap.size w wr) (fun i _ => l.length - (intOf i).toNat)
  case atStart => exact ⟨0, by omega, rfl, Below.refl _ _⟩
  case round =>
    obtain ⟨k, hk, rfl, hbr⟩ := hrel
    by_cases hlt : k < l.length
    case neg =>
      obtain rfl : k = l.length := by omega
      go_wp2_with fail
      go_ret
      exact ⟨rfl, hbr⟩
    obtain ⟨x, hx⟩ : ∃ x, l[k]? = some x := ⟨_, List.getElem?_eq_getElem hlt⟩
    obtain ⟨b, o, rfl, hbw, q0, q1, q2, q3, q4, q5⟩ := SlD.at_ (HA.out.below hbr) hx
    obtain ⟨g, o2, rfl, hgw, p0, p1, p2, p3, p4, p5⟩ := SlD.at_ (HB.out.below hbr) hx
    clear hx
    have hnn := neq_dd x
    go_upto_region 6 with fail
    have K0 := cell_regrown q0
    have L0 := cell_regrown p0
    have K1 := cell_regrown q1
    have L1 := cell_regrown p1
    have K2 := cell_regrown q2
    have L2 := cell_regrown p2
    have K3 := cell_regrown q3
    have L3 := cell_regrown p3
    have K4 := cell_regrown q4
    have L4 := cell_regrown p4
    have K5 := cell_regrown q5
    have L5 := cell_regrown p5
    clear q0 p0 q1 p1 q2 p2 q3 p3 q4 p4 q5 p5 hbw hgw
    refine wp_region_quiet_below (by kernel_rfl) (by kernel_rfl) ?_
    repeat (first | go_big_quiet_step (fail) | quiet_step (fail))
    refine wpQuiet_nil ?_
    intro _ hw'
    obtain ⟨⟨dq, osq⟩, hw''⟩ := hw'
    subst hw''
    have hbW1 := below_regrown wr dq osq
    clear K0 L0 K1 L1 K2 L2 K3 L3 K4 L4 K5 L5
    have BW1 : Below w.heap.size w (Go.Sort.grow (redrawn wr dq) osq) := hbr.trans (hbW1.mono hbr.size)
    clear hbW1 hbr
    generalize Go.Sort.grow (redrawn wr dq) osq = W1 at *
    go_wp2_with fail
    go_roundw
    case rel => exact ⟨k + 1, by omega, by go_num, BW1⟩
    case measure => simp [intOf]; omega
theorem fwd_len (t : T) : ∀ k, ((List.range k).flatMap t.fwdAt).length ≤ k
  | 0 => by simp
  | k + 1 => by
    rw [flat_succ, List.length_append]
    have := fwd_len t k
    have h2 : (t.fwdAt k).length ≤ 1 := by unfold T.fwdAt; split <;> simp
    omega
set_option maxHeartbeats 8000000 in
theorem r_fwd {t : T} {AC : Option Addr} {cC : Nat} {AU : Option Addr} {cU : Nat} {AI : Option Addr} {cI : Nat} {AS : Option Addr} {cS : Nat} {w : World} (hlen : t.states.length ≤ 1000) (hR : TreeR w t AC cC AU cU AI cI AS cS) :
    Calls Try.prog 22 #[tv t AC cC AU cU AI cI AS cS] w fun e w' => ∃ A c, e = .returned (.slice A t.fwd.length c) ∧ RowI w' A t.fwd.length c t.fwd ∧ Below w.heap.size w w' := by
  obtain ⟨w0, hw0⟩ : ∃ W, W = w.alloc (.cells #[.int .i64 t.self.id, .slice AC t.self.costs.length cC, .slice AU t.self.ups.length cU, .slice AI t.self.infos.length cI, .slice AS t.states.length cS, .int .i64 t.mx, .int .i64 t.dl] 29) := ⟨_, rfl⟩
  have I := Lib.hid (show InT w w0 t AC cC AU cU AI cI AS cS by rw [hw0]; exact .new hR)
  have e0 := Lib.hid (show w.heap.size + 1 = w0.heap.size by rw [hw0]; simp)
  obtain ⟨w2, hw2⟩ : ∃ W, W = w0.alloc (.cells #[] 3) := ⟨_, rfl⟩
  have b2 : Below w0.heap.size w0 w2 := by rw [hw2]; exact (Below.refl _ _).alloc (Nat.le_refl _) _
  have O2 := Lib.hid (show OwnI w2 w0.heap.size (.slice (some ⟨w0.heap.size, 0, none⟩) 0 0) [] by rw [hw2]; exact own_lit0 w0 _ _ _ (Nat.le_refl _))
  have hR0 := Lib.hid hR
  clear hR
  go_enter Try.func22, Try.ntmps22
  go_upto_region 2 with fail
  rw [e0.out, ← hw0, ← hw2]
  have I2 := Lib.hid (I.out.below b2)
  have z2 := I2.out.x.lt
  have o_0 := I2.out.c (i := 0) rfl
  have o_1 := I2.out.c (i := 1) rfl
  have o_2 := I2.out.c (i := 2) rfl
  have o_3 := I2.out.c (i := 3) rfl
  have o_4 := I2.out.c (i := 4) rfl
  have o_5 := I2.out.c (i := 5) rfl
  have o_6 := I2.out.c (i := 6) rfl
  have B2 := Lib.hid b2
  clear hw0 hw2 b2
  go_wp2_with fail
  clear o_0 o_1 o_2 o_3 o_4 o_5 o_6 z2
  go_loopw [3, 10] (fun v3 i wr => ∃ (k : Nat) (L : List Int), k ≤ t.states.length ∧ i = .int .i64 k ∧ L = (List.range k).flatMap t.fwdAt ∧ OwnI wr w0.heap.size v3 L ∧ Below w0.heap.size w0 wr) (fun _ i _ => t.states.length - (intOf i).toNat)
  case atStart => exact ⟨0, [], by omega, rfl, rfl, O2.out, B2.out⟩
  case round =>
    clear I2 O2 B2
    obtain ⟨k, L, hk, rfl, hL, hown, hb⟩ := hrel
    obtain ⟨A3, c3, hv3⟩ := IntP.OwnI.form' hown
    subst hv3
    have Ir := Lib.hid (I.out.below hb)
    have hlenL := Lib.hid (show L.length ≤ k by rw [hL]; exact fwd_len _ _)
    by_cases hkn : k < t.states.length
    · obtain ⟨bS, oS, rfl, hbS, q0, q1⟩ := SlP.at_ Ir.out.r.sts.sl (st_at (t := t) (p := k) hkn)
      obtain ⟨x, hx⟩ : ∃ x, t.st k = x := ⟨_, rfl⟩
      rw [hx] at q0 q1
      have hkl : (k : Int) < (t.states.length : Int) := by omega
      have hs := flat_succ t.fwdAt k
      rw [← hL] at hs
      unfold T.fwdAt at hs
      rw [hx] at hs
      replace hL := Lib.hid hL
      replace hx := Lib.hid hx
      replace hown := Lib.hid hown
      replace hb := Lib.hid hb
      have zr := Ir.out.x.lt
      go_upto_region 5 with fail
      obtain ⟨w1, hw1⟩ : ∃ W, W = wr.alloc (.cells #[.int .i64 x.1, .int .i64 x.2] 80) := ⟨_, rfl⟩
      have bw1 : Below wr.heap.size wr w1 := by rw [hw1]; exact (Below.refl _ _).alloc (Nat.le_refl _) _
      have Xw1 : Bx w1 wr.heap.size 80 #[.int .i64 x.1, .int .i64 x.2] := by rw [hw1]; exact Bx.new _ _ _ rfl
      rw [← hw1]
      clear hw1
      have O_w1 := Lib.hid (hown.out.below bw1)
      have N_w1 := Lib.hid (Xw1)
      clear hown
      have z0_w1 : wr.heap.size < w1.heap.size := Xw1.lt
      clear Xw1
      clear q0 q1 hbS
      have o_N_0 := N_w1.out.c (i := 0) rfl
      have o_N_1 := N_w1.out.c (i := 1) rfl
      by_cases h3 : x.1 = 3
      · have h3' : (x.1 == 3) = true := by rw [h3]; rfl
        rw [if_pos h3] at hs
        replace hs := Lib.hid hs
        replace h3 := Lib.hid h3
        have hbx := Lib.hid bw1
        obtain ⟨w8, hw8⟩ : ∃ W, W = w1.alloc (.cells #[.int .i64 k] 3) := ⟨_, rfl⟩
        have b8 : Below w1.heap.size w1 w8 := by rw [hw8]; exact (Below.refl _ _).alloc (Nat.le_refl _) _
        have hsl := Lib.hid (show Sl w8 1 (some ⟨w1.heap.size, 0, none⟩) (IntP.cI [(k : Int)]) from bx_sl (T := 3) (vals := #[.int .i64 k]) (by rw [hw8]; exact Bx.new _ _ _ rfl) rfl (by intro c hc; simp [IntP.cI] at hc; subst hc; rfl))
        have own8 := Lib.hid (O_w1.out.below b8)
        have hb8 := Lib.hid (bt (bt hb.out hbx.out) b8)
        have hn1 : Hid ((IntP.cI L).length + (IntP.cI [(k : Int)]).length ≤ 1000000) := Lib.hid (by rw [IntP.cI_length, IntP.cI_length]; have := hlenL.out; simp; omega)
        have hvl : Hid ((IntP.cI L).length = L.length) := Lib.hid (IntP.cI_length L)
        have hB2 : Hid (w0.heap.size ≤ w8.heap.size) := Lib.hid hb8.out.size
        clear b8 bw1
        go_wp2_with (at_builtin; rw [← hw8]; (refine wpList_append_sl rfl (.tmp 18) (.tmp 20) 22 rfl IntP.elI (by rfl) own8.out (by rfl) (by rfl) hsl.out (IntP.whole [(k : Int)]) (fun h => by cases h) hn1.out hB2.out ?_); intro v' w4 own1 grow1 _)
        have b4 : Below w0.heap.size w0 w4 := hb8.out.grown grow1 hb8.out.size (fun j hj => (own8.out.lt j hj).1)
        go_roundw
        case rel => exact ⟨k + 1, L ++ [(k : Int)], by omega, by go_num, hs.out.symm, by unfold OwnI; rw [IntP.cI_append]; exact own1, b4⟩
        case measure => simp [intOf]; omega
      · have h3' : (x.1 == 3) = false := by simpa using h3
        rw [if_neg h3, List.append_nil] at hs
        replace hs := Lib.hid hs
        replace h3 := Lib.hid h3
        have hb6 := Lib.hid (bt hb.out bw1)
        go_wp2_with fail
        go_roundw
        case rel => exact ⟨k + 1, L, by omega, by go_num, hs.out.symm, O_w1.out, hb6.out⟩
        case measure => simp [intOf]; omega
    · obtain rfl : k = t.states.length := by omega
      obtain rfl : L = t.fwd := hL
      have hrow := Lib.hid (IntP.own_row hown)
      have hbw := Lib.hid (bt I.out.b hb)
      replace hown := Lib.hid hown
      replace hb := Lib.hid hb
      go_wp2_with fail
      go_ret
      exact ⟨A3, c3, rfl, hrow.out, hbw.out⟩
end Go.Proofs.Ytidoaccidmmalaa.StpP
