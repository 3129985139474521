/-
  Contracts of stp.change, and of the closures that it is handed.
-/
import Derived.Test.YtidoaccidmmalaaStpZC
import Derived.Test.YtidoaccidmmalaaStpA
namespace Go.Proofs.Ytidoaccidmmalaa.StpP
open Go.Proofs.Ytidoaccidmmalaa.MacP (arr_out Wrote wp_region_ends outM)
open Go.RowKit Go.Sort Go.Proofs.Ytidoaccidmmalaa.SliceP Go.Proofs.Ytidoaccidmmalaa.BoxP Go.Proofs.Ytidoaccidmmalaa.VecP Go.Proofs.Ytidoaccidmmalaa.RoleP
open Go.Proofs.Ytidoaccidmmalaa.IntP (RowI SlI OwnI)
open Go.Proofs.Ytidoaccidmmalaa.BoolP (RowB SlB OwnB)
open Go.Proofs.Ytidoaccidmmalaa.PortP (okS roleS tickS sv)
set_option linter.unusedVariables false
set_option maxRecDepth 100000
abbrev fV (g : Nat) (cb : Array Value) : Value := .func (.func g) #[] cb
def EntersT (g : Nat) : Prop := ∀ args w, (callFunc g args).run Try.prog w = .ok (.enter g args) w
/-- A function that changes a tree in blocks of one's own. -/
def ActB (g : Nat) (cb : Array Value) (n : Nat) (w : World) (t t' : T) : Prop := ∀ (W : World) (B bO gC gU gI gS : Nat), Below n w W → n ≤ B → B ≤ W.heap.size → OwnT W B bO t gC gU gI gS →
  Calls Try.prog g (#[.pointer (some ⟨bO, 0, none⟩)] ++ cb) W fun e W' => e = .returned (.tuple #[]) ∧ OwnT W' B bO t' gC gU gI gS ∧ Below B W W'
section
variable {w : World} {B bO : Nat} {t : T} {gC gU gI gS : Nat} {p : Nat}
theorem OwnT.setN (h : OwnT w B bO t gC gU gI gS) (hp : p < t.self.infos.length) (x : N) : OwnT ((((((w.setCell ⟨gI, p * 6, none⟩ (.bool x.has)).setCell ⟨gI, p * 6 + 1, none⟩ (.int .i64 x.v.r)).setCell ⟨gI, p * 6 + 2, none⟩ (.int .i64 x.v.c)).setCell ⟨gI, p * 6 + 3, none⟩ (.int .i64 x.v.b)).setCell ⟨gI, p * 6 + 4, none⟩ (.int .i64 x.v.p)).setCell ⟨gI, p * 6 + 5, none⟩ (.int .i64 x.age)) B bO (t.know p x) gC gU gI gS := by
  obtain ⟨_, _, _, n4, n1, n2, n3, _⟩ := h.nes
  have hg := set6_grown w gI (p * 6) (p * 6 + 1) (p * 6 + 2) (p * 6 + 3) (p * 6 + 4) (p * 6 + 5) (.bool x.has) (.int .i64 x.v.r) (.int .i64 x.v.c) (.int .i64 x.v.b) (.int .i64 x.v.p) (.int .i64 x.age)
  have hx := h.x.grown hg (by simpa using n1)
  have hs := Blk.set6 h.b.n (wholeN _) (i := p) (by rw [List.length_map]; exact hp) (.bool x.has) (.int .i64 x.v.r) (.int .i64 x.v.c) (.int .i64 x.v.b) (.int .i64 x.v.p) (.int .i64 x.age)
  refine ⟨?_, ⟨h.b.c.grown hg (by simpa using n2), h.b.u.grown hg (by simpa using n3), ?_, h.b.s.grown hg (by simpa using Ne.symm n4), h.b.lc, h.b.lu, h.b.ln, h.b.ls⟩, h.le⟩
  · have e : (t.know p x).self.infos.length = t.self.infos.length := by unfold T.know StpP.know; simp
    unfold tcO
    rw [e]; exact hx
  · unfold T.know StpP.know
    simp only [List.map_set]
    exact hs
theorem OwnT.setU (h : OwnT w B bO t gC gU gI gS) (hp : p < t.self.ups.length) (x : Bool) : OwnT (w.setCell ⟨gU, p, none⟩ (.bool x)) B bO (t.upAt p x) gC gU gI gS := by
  obtain ⟨_, _, n3, _, _, _, n5, n1, n2⟩ := h.nes
  have hg := setCell_grown w gU p (.bool x)
  have hx := h.x.grown hg (by simpa using n1)
  have hs := Blk.set1 h.b.u (BoolP.whole _) (i := p) (by rw [BoolP.cB_length]; exact hp) (.bool x)
  refine ⟨?_, ⟨h.b.c.grown hg (by simpa using n2), ?_, h.b.n.grown hg (by simpa using Ne.symm n5), h.b.s.grown hg (by simpa using Ne.symm n3), h.b.lc, h.b.lu, h.b.ln, h.b.ls⟩, h.le⟩
  · have e : (t.upAt p x).self.ups.length = t.self.ups.length := by unfold T.upAt; simp
    unfold tcO
    rw [e]; exact hx
  · unfold T.upAt BoolP.cB
    simp only [List.map_set]
    exact hs
theorem OwnT.ui (h : OwnT w B bO t gC gU gI gS) {x : Bool} (hk : t.self.ups[p]? = some x) : w.cell? ⟨gU, p, none⟩ = some (.bool x) ∧ gU < w.heap.size :=
  have hs : (BoolP.cB t.self.ups)[p]? = some [.bool x] := by unfold BoolP.cB; rw [List.getElem?_map, hk]; rfl
  ⟨by simpa using h.b.u.cell (BoolP.whole _) hs (j := 0) rfl, h.b.u.lt⟩
theorem know_idle (hi : t.self.info p = N0) (hp : p < t.self.infos.length) : t.know p N0 = t := by
  unfold T.know StpP.know
  have : t.self.infos.set p N0 = t.self.infos := by
    have e : t.self.infos[p]? = some N0 := by rw [info_at hp, hi]
    apply List.ext_getElem?
    intro i
    rw [List.getElem?_set]
    by_cases c : p = i
    · subst c; rw [if_pos rfl, if_pos hp, e]
    · rw [if_neg c]
  rw [this]
end
set_option maxHeartbeats 16000000 in
theorem o_change {t : T} {AC : Option Addr} {cC : Nat} {AU : Option Addr} {cU : Nat} {AI : Option Addr} {cI : Nat} {AS : Option Addr} {cS : Nat} {w : World} {t' : T} {g : Nat} {cb : Array Value} (eg : EntersT g) (ha : ActB g cb w.heap.size w t t') (hp : Pre t') (hl : Len t) (hR : TreeR w t AC cC AU cU AI cI AS cS) : Calls Try.prog 34 #[tv t AC cC AU cU AI cI AS cS, fV g cb] w (RetO w t'.settle (fun v => v)) := by
  obtain ⟨w0, hw0⟩ : ∃ W, W = (w.alloc (.cells #[.int .i64 t.self.id, .slice AC t.self.costs.length cC, .slice AU t.self.ups.length cU, .slice AI t.self.infos.length cI, .slice AS t.states.length cS, .int .i64 t.mx, .int .i64 t.dl] 29)).alloc (.cells #[.int .i64 0, .slice none 0 0, .slice none 0 0, .slice none 0 0, .slice none 0 0, .int .i64 0, .int .i64 0] 29) := ⟨_, rfl⟩
  obtain ⟨n1, hn1⟩ : ∃ n1, w.heap.size + 1 = n1 := ⟨_, rfl⟩
  have I := Lib.hid (show Bx w0 w.heap.size 29 #[.int .i64 t.self.id, .slice AC t.self.costs.length cC, .slice AU t.self.ups.length cU, .slice AI t.self.infos.length cI, .slice AS t.states.length cS, .int .i64 t.mx, .int .i64 t.dl] by rw [hw0]; exact (Bx.new _ _ _ rfl).alloc _)
  have X := Lib.hid (show Bx w0 n1 29 #[.int .i64 0, .slice none 0 0, .slice none 0 0, .slice none 0 0, .slice none 0 0, .int .i64 0, .int .i64 0] by rw [hw0]; exact Bx.new _ _ _ (by rw [← hn1]; simp))
  have b0 : Below w.heap.size w w0 := by rw [hw0]; exact ((Below.refl _ _).alloc (Nat.le_refl _) _).alloc (by simp) _
  have hcp := Lib.hid (o_copy hl (hR.below b0))
  have hlt := Lib.hid (show w.heap.size ≤ w0.heap.size from b0.size)
  have hlt1 := Lib.hid (show n1 < w0.heap.size from X.out.lt)
  have hge := Lib.hid (show w.heap.size ≤ n1 by omega)
  have HA := Lib.hid ha
  have HP := Lib.hid hp
  have B0 := Lib.hid b0
  unfold EntersT at eg
  clear hR ha hp hl b0
  go_enter Try.func34, Try.ntmps34
  go_upto_region 1 with fail
  rw [← hw0]
  clear hw0 hn1
  have zz := I.out.lt
  have o0 := I.out.c (i := 0) rfl
  have o1 := I.out.c (i := 1) rfl
  have o2 := I.out.c (i := 2) rfl
  have o3 := I.out.c (i := 3) rfl
  have o4 := I.out.c (i := 4) rfl
  have o5 := I.out.c (i := 5) rfl
  have o6 := I.out.c (i := 6) rfl
  go_wp2_with fail
  clear zz o0 o1 o2 o3 o4 o5 o6 I
  go_at_call 33
  (with_reducible refine hcp.out.mono ?_)
  rintro e w1 ⟨gC, gU, gI, gS, rfl, bk, hb1⟩
  obtain ⟨w2, hw2⟩ : ∃ W, W = w1.alloc (.cells #[.int .i64 t.self.id, .slice (some ⟨gC, 0, none⟩) t.self.costs.length t.self.costs.length, .slice (some ⟨gU, 0, none⟩) t.self.ups.length t.self.ups.length, .slice (some ⟨gI, 0, none⟩) t.self.infos.length t.self.infos.length, .slice (some ⟨gS, 0, none⟩) t.states.length t.states.length, .int .i64 t.mx, .int .i64 t.dl] 29) := ⟨_, rfl⟩
  obtain ⟨n2, hn2⟩ : ∃ n2, w1.heap.size = n2 := ⟨_, rfl⟩
  have b2 : Below w1.heap.size w1 w2 := by rw [hw2]; exact (Below.refl _ _).alloc (Nat.le_refl _) _
  have H2 := Lib.hid (show OwnT w2 w0.heap.size n2 t gC gU gI gS from ⟨by rw [hw2]; exact Bx.new _ _ _ hn2, bk.below b2, by rw [← hn2]; exact hb1.size⟩)
  have B2 := Lib.hid (show Below w.heap.size w w2 from bt (bt B0.out hb1) b2)
  have D2 := Lib.hid (show w0.heap.size ≤ w2.heap.size from Nat.le_trans hb1.size b2.size)
  have X2 := Lib.hid (show Bx w2 n1 29 #[.int .i64 0, .slice none 0 0, .slice none 0 0, .slice none 0 0, .slice none 0 0, .int .i64 0, .int .i64 0] from (X.out.below hb1).below b2)
  have hact := Lib.hid (HA.out w2 w0.heap.size n2 gC gU gI gS B2.out hlt.out D2.out H2.out)
  clear hcp HA bk hb1 b2 X B0 H2
  go_upto_region 2 with fail
  rw [← hw2]
  clear hw2 hn2
  go_wp2_with fail
  go_at_fn g
  (with_reducible refine hact.out.mono ?_)
  rintro e w3 ⟨rfl, h3, hb3⟩
  have hset := Lib.hid (o_settle HP.out (Nat.le_trans D2.out hb3.size) h3)
  have B3 := Lib.hid (show Below w.heap.size w w3 from B2.out.trans (hb3.mono hlt.out))
  have D3 := Lib.hid (show w0.heap.size ≤ w3.heap.size from Nat.le_trans D2.out hb3.size)
  have X3 := Lib.hid (show Bx w3 n1 29 #[.int .i64 0, .slice none 0 0, .slice none 0 0, .slice none 0 0, .slice none 0 0, .int .i64 0, .int .i64 0] from (hb3.block n1 hlt1.out).trans X2.out)
  clear hact h3 hb3 X2 B2 D2
  go_wp2_with fail
  go_at_call 29
  (with_reducible refine hset.out.mono ?_)
  rintro e w4 ⟨rfl, h4, hb4⟩
  obtain ⟨u, hu⟩ : ∃ u, t'.settle = u := ⟨_, rfl⟩
  rw [hu] at h4
  have B4 := Lib.hid (show Below w.heap.size w w4 from B3.out.trans (hb4.mono hlt.out))
  have X4 := Lib.hid (show Bx w4 n1 29 #[.int .i64 0, .slice none 0 0, .slice none 0 0, .slice none 0 0, .slice none 0 0, .int .i64 0, .int .i64 0] from (hb4.block n1 hlt1.out).trans X3.out)
  have H4 := Lib.hid h4
  replace hu := Lib.hid hu
  clear hset h4 hb4 X3 B3 D3
  have zz := H4.out.x.lt
  have zx := X4.out.lt
  have o0 := H4.out.c (i := 0) rfl
  have x0 := X4.out.c (i := 0) rfl
  have g0 := X4.out.f 0
  have o1 := H4.out.c (i := 1) rfl
  have x1 := X4.out.c (i := 1) rfl
  have g1 := X4.out.f 1
  have o2 := H4.out.c (i := 2) rfl
  have x2 := X4.out.c (i := 2) rfl
  have g2 := X4.out.f 2
  have o3 := H4.out.c (i := 3) rfl
  have x3 := X4.out.c (i := 3) rfl
  have g3 := X4.out.f 3
  have o4 := H4.out.c (i := 4) rfl
  have x4 := X4.out.c (i := 4) rfl
  have g4 := X4.out.f 4
  have o5 := H4.out.c (i := 5) rfl
  have x5 := X4.out.c (i := 5) rfl
  have g5 := X4.out.f 5
  have o6 := H4.out.c (i := 6) rfl
  have x6 := X4.out.c (i := 6) rfl
  have g6 := X4.out.f 6
  go_wp2_with fail
  refine bodyPost_ret (v := tvO u gC gU gI gS) (by simp [results, Try.results34, go_sem, x0, x1, x2, x3, x4, x5, x6]) rfl ⟨gC, gU, gI, gS, by rw [hu.out], ?_, set7_bel B4.out hge.out⟩
  rw [hu.out]
  exact (Blks.set7 H4.out.b X4.out).base hlt.out
theorem grown_trans6 {W W2 : World} {B g i0 i1 i2 i3 i4 i5 : Nat} {a b c d f k : Value} (hb : Below W.heap.size W W2) (hB : B ≤ W.heap.size) (hg : B ≤ g) : Below B W ((((((W2.setCell ⟨g, i0, none⟩ a).setCell ⟨g, i1, none⟩ b).setCell ⟨g, i2, none⟩ c).setCell ⟨g, i3, none⟩ d).setCell ⟨g, i4, none⟩ f).setCell ⟨g, i5, none⟩ k) :=
  (hb.mono hB).trans (grown_below (set6_grown _ _ _ _ _ _ _ _ _ _ _ _ _ _) (fun j hj => by cases hj; exact hg) (Nat.le_trans hB hb.size))
theorem grown_trans1 {W W2 : World} {B g i : Nat} {a : Value} (hb : Below W.heap.size W W2) (hB : B ≤ W.heap.size) (hg : B ≤ g) : Below B W (W2.setCell ⟨g, i, none⟩ a) :=
  (hb.mono hB).trans (grown_below (setCell_grown _ _ _ _) (fun j hj => by cases hj; exact hg) (Nat.le_trans hB hb.size))
theorem hear1_enters : EntersT 35 := enters_of Try.func35 (by kernel_rfl) rfl
set_option maxHeartbeats 16000000 in
theorem hear1_any {W : World} {B bO bC bP p : Nat} {t : T} {gC gU gI gS : Nat} {q : V} {a : Int} (hpl : p < t.self.infos.length) (hn8 : t.self.infos.length ≤ 8) (HC : Bx W bC 33 #[.int .i64 q.r, .int .i64 q.c, .int .i64 q.b, .int .i64 q.p, .int .i64 a]) (HP : Bx W bP 3 #[.int .i64 p]) (hB : B ≤ W.heap.size) (h : OwnT W B bO t gC gU gI gS) :
    Calls Try.prog 35 #[.pointer (some ⟨bO, 0, none⟩), .pointer (some ⟨bC, 0, none⟩), .pointer (some ⟨bP, 0, none⟩)] W fun e W' => e = .returned (.tuple #[]) ∧ OwnT W' B bO (t.know p ⟨true, q, a⟩) gC gU gI gS ∧ Below B W W' := by
  have H := Lib.hid h
  have hB := Lib.hid hB
  have hpi : (p : Int) < (t.self.infos.length : Int) := by omega
  have zO := h.x.lt
  have zC := HC.lt
  have zP := HP.lt
  have o3 : W.cell? ⟨bO, 3, none⟩ = some (.slice (some ⟨gI, 0, none⟩) t.self.infos.length t.self.infos.length) := h.c (i := 3) rfl
  have p0 := HP.c (i := 0) rfl
  have c0 := HC.c (i := 0) rfl
  have c1 := HC.c (i := 1) rfl
  have c2 := HC.c (i := 2) rfl
  have c3 := HC.c (i := 3) rfl
  have c4 := HC.c (i := 4) rfl
  obtain ⟨n0, n1, n2, n3, n4, n5, zI⟩ := h.ni (info_at hpl)
  have f0 := h.b.n.free (p * 6)
  have f1 := h.b.n.free (p * 6 + 1)
  have f2 := h.b.n.free (p * 6 + 2)
  have f3 := h.b.n.free (p * 6 + 3)
  have f4 := h.b.n.free (p * 6 + 4)
  have f5 := h.b.n.free (p * 6 + 5)
  clear h HC HP
  go_enter Try.func35, Try.ntmps35
  go_upto_region 0 with fail
  refine Go.Proofs.Ytidoaccidmmalaa.MacP.wp_region_free (by kernel_rfl) (fun ix => match ix with | 0 => 4 | 1 => 5 | 2 => 6 | 3 => 7 | 4 => 8 | 5 => 9 | 6 => 10 | 7 => 11 | 8 => 12 | 9 => 13 | 10 => 14 | 11 => 15 | _ => 0) 0 12 (fun _ => false) (fun _ => .bool true) (by decide) (by decide) rfl rfl (by kernel_rfl) (by kernel_rfl) (by kernel_rfl) (fun W' => Below W.heap.size W W') (fun W' W'' => Below W'.heap.size W' W'') (fun W' h => h) (fun W' W'' h h' => bt h h') (fun W' W'' h h' => bt h h') (fun i v _ => match i with | 0 => v = .pointer (some ⟨bO, 0, none⟩) | 1 => v = .pointer (some ⟨bO, 0, none⟩) | 2 => v = .pointer (some ⟨bO, 0, none⟩) | 3 => v = .pointer (some ⟨bO, 3, none⟩) | 4 => v = .slice (some ⟨gI, 0, none⟩) t.self.infos.length t.self.infos.length | 5 => v = .int .i64 p | 6 => v = .pointer (some ⟨bC, 0, none⟩) | 7 => v = .agg #[.int .i64 q.r, .int .i64 q.c, .int .i64 q.b, .int .i64 q.p] | 8 => v = .pointer (some ⟨bC, 4, none⟩) | 9 => v = .int .i64 a | 10 => v = .agg #[.bool true, .int .i64 q.r, .int .i64 q.c, .int .i64 q.b, .int .i64 q.p, .int .i64 a] | 11 => v = .pointer (some ⟨gI, p * 6, none⟩) | _ => True) (fun i v W W' h _ => h) (fun i v W W' _ h _ _ => h) ?_
  refine ⟨?_, ?_, ?_, ?_, ?_, ?_, ?_, ?_, ?_, ?_, ?_, ?_, ?_, trivial⟩
  · as_aux_lemma =>
      intro a9 W2 K hR hm hdep hk hK hall
      replace hK : ∀ v w', v = .pointer (some ⟨bO, 0, none⟩) → Below W2.heap.size W2 w' → K (a9.put (some 4) v) w' := hK
      have hb := hR rfl
      have d0 : a9.tmps.getD 0 undef = .pointer (some ⟨bO, 0, none⟩) := hk 0 (by kernel_rfl)
      clear hdep hk hm hR hall hb
      go_simp
      exact hK _ _ rfl (Below.refl _ _)
  · as_aux_lemma =>
      intro a9 W2 K hR hm hdep hk hK hall
      replace hK : ∀ v w', v = .pointer (some ⟨bO, 0, none⟩) → Below W2.heap.size W2 w' → K (a9.put (some 5) v) w' := hK
      have hb := hR rfl
      have d4 : a9.tmps.getD 4 undef = .pointer (some ⟨bO, 0, none⟩) := ((hdep ⟨0, .data⟩ (by simp) rfl (by decide)).2 rfl).2 rfl
      clear hdep hk hm hR hall hb
      go_simp
      exact hK _ _ rfl (Below.refl _ _)
  · as_aux_lemma =>
      intro a9 W2 K hR hm hdep hk hK hall
      replace hK : ∀ v w', v = .pointer (some ⟨bO, 0, none⟩) → Below W2.heap.size W2 w' → K (a9.put (some 6) v) w' := hK
      have hb := hR rfl
      have d5 : a9.tmps.getD 5 undef = .pointer (some ⟨bO, 0, none⟩) := ((hdep ⟨1, .data⟩ (by simp) rfl (by decide)).2 rfl).2 rfl
      clear hdep hk hm hR hall hb
      go_simp
      exact hK _ _ rfl (Below.refl _ _)
  · as_aux_lemma =>
      intro a9 W2 K hR hm hdep hk hK hall
      replace hK : ∀ v w', v = .pointer (some ⟨bO, 3, none⟩) → Below W2.heap.size W2 w' → K (a9.put (some 7) v) w' := hK
      have hb := hR rfl
      have d6 : a9.tmps.getD 6 undef = .pointer (some ⟨bO, 0, none⟩) := ((hdep ⟨2, .data⟩ (by simp) rfl (by decide)).2 rfl).2 rfl
      clear hdep hk hm hR hall hb
      go_simp
      exact hK _ _ rfl (Below.refl _ _)
  · as_aux_lemma =>
      intro a9 W2 K hR hm hdep hk hK hall
      replace hK : ∀ v w', v = .slice (some ⟨gI, 0, none⟩) t.self.infos.length t.self.infos.length → Below W2.heap.size W2 w' → K (a9.put (some 8) v) w' := hK
      have hb := hR rfl
      have d7 : a9.tmps.getD 7 undef = .pointer (some ⟨bO, 3, none⟩) := ((hdep ⟨3, .data⟩ (by simp) rfl (by decide)).2 rfl).2 rfl
      have t3 := (hb.cell (p := ⟨bO, 3, none⟩) zO).trans o3
      clear hdep hk hm hR hall hb
      go_simp
      exact hK _ _ rfl (Below.refl _ _)
  · as_aux_lemma =>
      intro a9 W2 K hR hm hdep hk hK hall
      replace hK : ∀ v w', v = .int .i64 p → Below W2.heap.size W2 w' → K (a9.put (some 9) v) w' := hK
      have hb := hR rfl
      have d2 : a9.tmps.getD 2 undef = .pointer (some ⟨bP, 0, none⟩) := hk 2 (by kernel_rfl)
      have t9 := (hb.cell (p := ⟨bP, 0, none⟩) zP).trans p0
      clear hdep hk hm hR hall hb
      go_simp
      exact hK _ _ rfl (Below.refl _ _)
  · as_aux_lemma =>
      intro a9 W2 K hR hm hdep hk hK hall
      replace hK : ∀ v w', v = .pointer (some ⟨bC, 0, none⟩) → Below W2.heap.size W2 w' → K (a9.put (some 10) v) w' := hK
      have hb := hR rfl
      have d1 : a9.tmps.getD 1 undef = .pointer (some ⟨bC, 0, none⟩) := hk 1 (by kernel_rfl)
      clear hdep hk hm hR hall hb
      go_simp
      exact hK _ _ rfl (Below.refl _ _)
  · as_aux_lemma =>
      intro a9 W2 K hR hm hdep hk hK hall
      replace hK : ∀ v w', v = .agg #[.int .i64 q.r, .int .i64 q.c, .int .i64 q.b, .int .i64 q.p] → Below W2.heap.size W2 w' → K (a9.put (some 11) v) w' := hK
      have hb := hR rfl
      have d10 : a9.tmps.getD 10 undef = .pointer (some ⟨bC, 0, none⟩) := ((hdep ⟨6, .data⟩ (by simp) rfl (by decide)).2 rfl).2 rfl
      have t0 := (hb.cell (p := ⟨bC, 0, none⟩) zC).trans c0
      have t1 := (hb.cell (p := ⟨bC, 1, none⟩) zC).trans c1
      have t2 := (hb.cell (p := ⟨bC, 2, none⟩) zC).trans c2
      have t3 := (hb.cell (p := ⟨bC, 3, none⟩) zC).trans c3
      clear hdep hk hm hR hall hb
      go_simp
      exact hK _ _ rfl (Below.refl _ _)
  · as_aux_lemma =>
      intro a9 W2 K hR hm hdep hk hK hall
      replace hK : ∀ v w', v = .pointer (some ⟨bC, 4, none⟩) → Below W2.heap.size W2 w' → K (a9.put (some 12) v) w' := hK
      have hb := hR rfl
      have d1 : a9.tmps.getD 1 undef = .pointer (some ⟨bC, 0, none⟩) := hk 1 (by kernel_rfl)
      clear hdep hk hm hR hall hb
      go_simp
      exact hK _ _ rfl (Below.refl _ _)
  · as_aux_lemma =>
      intro a9 W2 K hR hm hdep hk hK hall
      replace hK : ∀ v w', v = .int .i64 a → Below W2.heap.size W2 w' → K (a9.put (some 13) v) w' := hK
      have hb := hR rfl
      have d12 : a9.tmps.getD 12 undef = .pointer (some ⟨bC, 4, none⟩) := ((hdep ⟨8, .data⟩ (by simp) rfl (by decide)).2 rfl).2 rfl
      have t4 := (hb.cell (p := ⟨bC, 4, none⟩) zC).trans c4
      clear hdep hk hm hR hall hb
      go_simp
      exact hK _ _ rfl (Below.refl _ _)
  · intro a9 W2 K hR hm hdep hk hK hall
    replace hK : ∀ v w', v = .agg #[.bool true, .int .i64 q.r, .int .i64 q.c, .int .i64 q.b, .int .i64 q.p, .int .i64 a] → Below W2.heap.size W2 w' → K (a9.put (some 14) v) w' := hK
    have hb := hR rfl
    have d11 : a9.tmps.getD 11 undef = .agg #[.int .i64 q.r, .int .i64 q.c, .int .i64 q.b, .int .i64 q.p] := ((hdep ⟨7, .data⟩ (by simp) rfl (by decide)).2 rfl).2 rfl
    have d13 : a9.tmps.getD 13 undef = .int .i64 a := ((hdep ⟨9, .data⟩ (by simp) rfl (by decide)).2 rfl).2 rfl
    clear hdep hk hm hR hall hb
    have q11 : a9.tmps[11]?.getD undef = .agg #[.int .i64 q.r, .int .i64 q.c, .int .i64 q.b, .int .i64 q.p] := by simpa [Array.getD_eq_getD_getElem?] using d11
    clear d11
    have q13 : a9.tmps[13]?.getD undef = .int .i64 a := by simpa [Array.getD_eq_getD_getElem?] using d13
    clear d13
    go_simp
    exact hK _ _ rfl (Below.refl _ _)
  · as_aux_lemma =>
      intro a9 W2 K hR hm hdep hk hK hall
      replace hK : ∀ v w', v = .pointer (some ⟨gI, p * 6, none⟩) → Below W2.heap.size W2 w' → K (a9.put (some 15) v) w' := hK
      have hb := hR rfl
      have d8 : a9.tmps.getD 8 undef = .slice (some ⟨gI, 0, none⟩) t.self.infos.length t.self.infos.length := ((hdep ⟨4, .data⟩ (by simp) rfl (by decide)).2 rfl).2 rfl
      have d9 : a9.tmps.getD 9 undef = .int .i64 p := ((hdep ⟨5, .data⟩ (by simp) rfl (by decide)).2 rfl).2 rfl
      clear hdep hk hm hR hall hb
      go_simp
      exact hK _ _ rfl (Below.refl _ _)
  · intro a9 W2 K hR hm hdep hk hK hall
    replace hK : ∀ w', (∀ a', Go.Proofs.Ytidoaccidmmalaa.MacP.Ended _ _ _ _ a9 a' → _) → K a9 w' := hK
    obtain ⟨hsp, hn, hdf⟩ := hall rfl
    have hb := hR rfl
    have t0 := (hb.cell (p := ⟨gI, p * 6, none⟩) zI).trans n0
    have u0 := (hb.frozen (p := ⟨gI, p * 6, none⟩) zI).trans f0
    have t1 := (hb.cell (p := ⟨gI, p * 6 + 1, none⟩) zI).trans n1
    have u1 := (hb.frozen (p := ⟨gI, p * 6 + 1, none⟩) zI).trans f1
    have t2 := (hb.cell (p := ⟨gI, p * 6 + 2, none⟩) zI).trans n2
    have u2 := (hb.frozen (p := ⟨gI, p * 6 + 2, none⟩) zI).trans f2
    have t3 := (hb.cell (p := ⟨gI, p * 6 + 3, none⟩) zI).trans n3
    have u3 := (hb.frozen (p := ⟨gI, p * 6 + 3, none⟩) zI).trans f3
    have t4 := (hb.cell (p := ⟨gI, p * 6 + 4, none⟩) zI).trans n4
    have u4 := (hb.frozen (p := ⟨gI, p * 6 + 4, none⟩) zI).trans f4
    have t5 := (hb.cell (p := ⟨gI, p * 6 + 5, none⟩) zI).trans n5
    have u5 := (hb.frozen (p := ⟨gI, p * 6 + 5, none⟩) zI).trans f5
    have h14 : a9.tmps.getD 14 undef = .agg #[.bool true, .int .i64 q.r, .int .i64 q.c, .int .i64 q.b, .int .i64 q.p, .int .i64 a] := hsp 10 (by decide) rfl
    have h15 : a9.tmps.getD 15 undef = .pointer (some ⟨gI, p * 6, none⟩) := hsp 11 (by decide) rfl
    obtain ⟨w9, hwS⟩ : ∃ W, W = ((((((W2.setCell ⟨gI, p * 6, none⟩ (.bool true)).setCell ⟨gI, p * 6 + 1, none⟩ (.int .i64 q.r)).setCell ⟨gI, p * 6 + 2, none⟩ (.int .i64 q.c)).setCell ⟨gI, p * 6 + 3, none⟩ (.int .i64 q.b)).setCell ⟨gI, p * 6 + 4, none⟩ (.int .i64 q.p)).setCell ⟨gI, p * 6 + 5, none⟩ (.int .i64 a)) := ⟨_, rfl⟩
    have hKK := Lib.hid (hK w9)
    have H9 := Lib.hid (show OwnT w9 B bO (t.know p ⟨true, q, a⟩) gC gU gI gS by rw [hwS]; exact (H.out.below hb).setN hpl ⟨true, q, a⟩)
    have B9 := Lib.hid (show Below B W w9 by rw [hwS]; exact grown_trans6 hb hB.out (H.out.b.ln) )
    clear hK hsp hR hall hm hdep hb
    replace hn := Lib.hid hn
    replace hk := Lib.hid hk
    have q14 : a9.tmps[14]?.getD undef = .agg #[.bool true, .int .i64 q.r, .int .i64 q.c, .int .i64 q.b, .int .i64 q.p, .int .i64 a] := by simpa [Array.getD_eq_getD_getElem?] using h14
    clear h14
    have q15 : a9.tmps[15]?.getD undef = .pointer (some ⟨gI, p * 6, none⟩) := by simpa [Array.getD_eq_getD_getElem?] using h15
    clear h15
    go_simp
    rw [← hwS]
    refine hKK.out ?_
    rintro am ⟨h1', h2', h3, h4⟩
    have hn2 := h1'.trans hn.out
    have hdf2 := h2'.trans hdf
    replace hk := hk.out
    clear hwS hn hdf h1' h2' q14 q15
    have s0 : am.tmps.getD 0 undef = .pointer (some ⟨bO, 0, none⟩) := (h3 0 (by decide +revert)).trans (hk 0 (by kernel_rfl))
    have s1 : am.tmps.getD 1 undef = .pointer (some ⟨bC, 0, none⟩) := (h3 1 (by decide +revert)).trans (hk 1 (by kernel_rfl))
    have s2 : am.tmps.getD 2 undef = .pointer (some ⟨bP, 0, none⟩) := (h3 2 (by decide +revert)).trans (hk 2 (by kernel_rfl))
    clear hk hKK h3 h4
    obtain ⟨tm, df⟩ := am
    have e := arr_out tm 16 hn2
    replace e : tm = #[tm.getD 0 undef, tm.getD 1 undef, tm.getD 2 undef, tm.getD 3 undef, tm.getD 4 undef, tm.getD 5 undef, tm.getD 6 undef, tm.getD 7 undef, tm.getD 8 undef, tm.getD 9 undef, tm.getD 10 undef, tm.getD 11 undef, tm.getD 12 undef, tm.getD 13 undef, tm.getD 14 undef, tm.getD 15 undef] := e
    simp only at s0 s1 s2 hdf2
    rw [s0, s1, s2] at e
    subst hdf2
    clear s0 s1 s2 hn2
    generalize tm.getD 3 undef = u3 at e
    generalize tm.getD 4 undef = u4 at e
    generalize tm.getD 5 undef = u5 at e
    generalize tm.getD 6 undef = u6 at e
    generalize tm.getD 7 undef = u7 at e
    generalize tm.getD 8 undef = u8 at e
    generalize tm.getD 9 undef = u9 at e
    generalize tm.getD 10 undef = u10 at e
    generalize tm.getD 11 undef = u11 at e
    generalize tm.getD 12 undef = u12 at e
    generalize tm.getD 13 undef = u13 at e
    generalize tm.getD 14 undef = u14 at e
    generalize tm.getD 15 undef = u15 at e
    subst e
    go_end0
    exact ⟨rfl, H9.out, B9.out⟩
theorem hear1_act {w : World} {n bC bP p : Nat} {t : T} {q : V} {a : Int} (hpl : p < t.self.infos.length) (hn8 : t.self.infos.length ≤ 8) (HC : Bx w bC 33 #[.int .i64 q.r, .int .i64 q.c, .int .i64 q.b, .int .i64 q.p, .int .i64 a]) (HP : Bx w bP 3 #[.int .i64 p]) (hn : n = w.heap.size) : ActB 35 #[.pointer (some ⟨bC, 0, none⟩), .pointer (some ⟨bP, 0, none⟩)] n w t (t.know p ⟨true, q, a⟩) := fun W B bO gC gU gI gS hb h1 h2 h => by
  subst hn
  exact hear1_any hpl hn8 (HC.below hb) (HP.below hb) h2 h
end Go.Proofs.Ytidoaccidmmalaa.StpP

/-
  The closure of stp.Link.
-/
namespace Go.Proofs.Ytidoaccidmmalaa.StpP
open Go.Proofs.Ytidoaccidmmalaa.MacP (arr_out Wrote wp_region_ends outM)
open Go.RowKit Go.Sort Go.Proofs.Ytidoaccidmmalaa.SliceP Go.Proofs.Ytidoaccidmmalaa.BoxP Go.Proofs.Ytidoaccidmmalaa.VecP Go.Proofs.Ytidoaccidmmalaa.RoleP
open Go.Proofs.Ytidoaccidmmalaa.IntP (RowI SlI OwnI)
open Go.Proofs.Ytidoaccidmmalaa.BoolP (RowB SlB OwnB)
open Go.Proofs.Ytidoaccidmmalaa.PortP (okS roleS tickS sv)
set_option linter.unusedVariables false
set_option maxRecDepth 100000
theorem link1_enters : EntersT 53 := enters_of Try.func53 (by kernel_rfl) rfl
/-- What the closure of Link does. -/
def T.linked (t : T) (p : Nat) (up : Bool) : T := (if up = true then t else t.know p N0).upAt p up
set_option maxHeartbeats 16000000 in
theorem link1_any {W : World} {B bO bC bP p : Nat} {t : T} {gC gU gI gS : Nat} {up : Bool} (hpl : p < t.self.infos.length) (hpu : p < t.self.ups.length) (hn8 : t.self.infos.length ≤ 8) (hu8 : t.self.ups.length ≤ 8) (HC : Bx W bC 4 #[.bool up]) (HP : Bx W bP 3 #[.int .i64 p]) (hlP : bC < B ∧ bP < B) (hB : B ≤ W.heap.size) (h : OwnT W B bO t gC gU gI gS) :
    Calls Try.prog 53 #[.pointer (some ⟨bO, 0, none⟩), .pointer (some ⟨bC, 0, none⟩), .pointer (some ⟨bP, 0, none⟩)] W fun e W' => e = .returned (.tuple #[]) ∧ OwnT W' B bO (t.linked p up) gC gU gI gS ∧ Below B W W' := by
  have hB := Lib.hid hB
  have hlP := Lib.hid hlP
  have hpi : (p : Int) < (t.self.infos.length : Int) := by omega
  have hpj : (p : Int) < (t.self.ups.length : Int) := by omega
  obtain ⟨u, hu⟩ : ∃ u, (if up = true then t else t.know p N0) = u := ⟨_, rfl⟩
  have hul : u.self.ups = t.self.ups := by rw [← hu]; cases up <;> rfl
  unfold T.linked
  rw [hu]
  -- the second region
  have key : ∀ (W1 : World), Below B W W1 → B ≤ W1.heap.size → OwnT W1 B bO u gC gU gI gS → True := fun _ _ _ _ => trivial
  clear key
  have H := Lib.hid h
  have zC := HC.lt
  have zP := HP.lt
  have c0 := HC.c (i := 0) rfl
  have p0 := HP.c (i := 0) rfl
  have HC' := Lib.hid HC
  have HP' := Lib.hid HP
  clear h HC HP
  go_enter Try.func53, Try.ntmps53
  cases up with
  | true =>
    obtain rfl : u = t := by rw [← hu]; rfl
    have HC2 := HC'
    have HP2 := HP'
    have hBW := hB
    have Bx9 := Lib.hid (show Below B W W from (Below.refl _ _).mono hB.out)
    clear hu
    go_upto_region 2 with fail
    clear c0 p0 zC zP
    obtain ⟨bu, hbu⟩ : ∃ b, u.self.ups[p]? = some b := ⟨_, List.getElem?_eq_getElem (by rw [hul]; exact hpu)⟩
    obtain ⟨n0, zI⟩ := H.out.ui hbu
    have f0 := H.out.b.u.free p
    have zO := H.out.x.lt
    have o2 : W.cell? ⟨bO, 2, none⟩ = some (.slice (some ⟨gU, 0, none⟩) u.self.ups.length u.self.ups.length) := H.out.c (i := 2) rfl
    rw [hul] at o2
    have c0 := HC2.out.c (i := 0) rfl
    have p0 := HP2.out.c (i := 0) rfl
    have zC := HC2.out.lt
    have zP := HP2.out.lt
    have hpu9 := Lib.hid (show p < u.self.ups.length by rw [hul]; exact hpu)
    replace hul := Lib.hid hul
    replace hbu := Lib.hid hbu
    refine Go.Proofs.Ytidoaccidmmalaa.MacP.wp_region_free (by kernel_rfl) (fun ix => match ix with | 0 => 14 | 1 => 15 | 2 => 16 | 3 => 17 | 4 => 18 | 5 => 19 | 6 => 20 | 7 => 21 | _ => 0) 0 8 (fun _ => false) (fun _ => .bool true) (by decide) (by decide) rfl rfl (by kernel_rfl) (by kernel_rfl) (by kernel_rfl) (fun W' => Below W.heap.size W W') (fun W' W'' => Below W'.heap.size W' W'') (fun W' h => h) (fun W' W'' h h' => bt h h') (fun W' W'' h h' => bt h h') (fun i v _ => match i with | 0 => v = .pointer (some ⟨bO, 0, none⟩) | 1 => v = .pointer (some ⟨bO, 0, none⟩) | 2 => v = .pointer (some ⟨bO, 0, none⟩) | 3 => v = .pointer (some ⟨bO, 2, none⟩) | 4 => v = .slice (some ⟨gU, 0, none⟩) u.self.ups.length u.self.ups.length | 5 => v = .int .i64 p | 6 => v = .bool true | 7 => v = .pointer (some ⟨gU, p, none⟩) | _ => True) (fun i v W W' h _ => h) (fun i v W W' _ h _ _ => h) ?_
    refine ⟨?_, ?_, ?_, ?_, ?_, ?_, ?_, ?_, ?_, trivial⟩
    · as_aux_lemma =>
        intro a9 W2 K hR hm hdep hk hK hall
        replace hK : ∀ v w', v = .pointer (some ⟨bO, 0, none⟩) → Below W2.heap.size W2 w' → K (a9.put (some 14) v) w' := hK
        have hb := hR rfl
        have d0 : a9.tmps.getD 0 undef = .pointer (some ⟨bO, 0, none⟩) := hk 0 (by kernel_rfl)
        clear hdep hk hm hR hall hb
        go_simp
        exact hK _ _ rfl (Below.refl _ _)
    · as_aux_lemma =>
        intro a9 W2 K hR hm hdep hk hK hall
        replace hK : ∀ v w', v = .pointer (some ⟨bO, 0, none⟩) → Below W2.heap.size W2 w' → K (a9.put (some 15) v) w' := hK
        have hb := hR rfl
        have d14 : a9.tmps.getD 14 undef = .pointer (some ⟨bO, 0, none⟩) := ((hdep ⟨0, .data⟩ (by simp) rfl (by decide)).2 rfl).2 rfl
        clear hdep hk hm hR hall hb
        go_simp
        exact hK _ _ rfl (Below.refl _ _)
    · as_aux_lemma =>
        intro a9 W2 K hR hm hdep hk hK hall
        replace hK : ∀ v w', v = .pointer (some ⟨bO, 0, none⟩) → Below W2.heap.size W2 w' → K (a9.put (some 16) v) w' := hK
        have hb := hR rfl
        have d15 : a9.tmps.getD 15 undef = .pointer (some ⟨bO, 0, none⟩) := ((hdep ⟨1, .data⟩ (by simp) rfl (by decide)).2 rfl).2 rfl
        clear hdep hk hm hR hall hb
        go_simp
        exact hK _ _ rfl (Below.refl _ _)
    · as_aux_lemma =>
        intro a9 W2 K hR hm hdep hk hK hall
        replace hK : ∀ v w', v = .pointer (some ⟨bO, 2, none⟩) → Below W2.heap.size W2 w' → K (a9.put (some 17) v) w' := hK
        have hb := hR rfl
        have d16 : a9.tmps.getD 16 undef = .pointer (some ⟨bO, 0, none⟩) := ((hdep ⟨2, .data⟩ (by simp) rfl (by decide)).2 rfl).2 rfl
        clear hdep hk hm hR hall hb
        go_simp
        exact hK _ _ rfl (Below.refl _ _)
    · as_aux_lemma =>
        intro a9 W2 K hR hm hdep hk hK hall
        replace hK : ∀ v w', v = .slice (some ⟨gU, 0, none⟩) u.self.ups.length u.self.ups.length → Below W2.heap.size W2 w' → K (a9.put (some 18) v) w' := hK
        have hb := hR rfl
        have d17 : a9.tmps.getD 17 undef = .pointer (some ⟨bO, 2, none⟩) := ((hdep ⟨3, .data⟩ (by simp) rfl (by decide)).2 rfl).2 rfl
        have t2 := (hb.cell (p := ⟨bO, 2, none⟩) zO).trans o2
        clear hdep hk hm hR hall hb
        go_simp
        exact hK _ _ rfl (Below.refl _ _)
    · as_aux_lemma =>
        intro a9 W2 K hR hm hdep hk hK hall
        replace hK : ∀ v w', v = .int .i64 p → Below W2.heap.size W2 w' → K (a9.put (some 19) v) w' := hK
        have hb := hR rfl
        have d2 : a9.tmps.getD 2 undef = .pointer (some ⟨bP, 0, none⟩) := hk 2 (by kernel_rfl)
        have t9 := (hb.cell (p := ⟨bP, 0, none⟩) zP).trans p0
        clear hdep hk hm hR hall hb
        go_simp
        exact hK _ _ rfl (Below.refl _ _)
    · as_aux_lemma =>
        intro a9 W2 K hR hm hdep hk hK hall
        replace hK : ∀ v w', v = .bool true → Below W2.heap.size W2 w' → K (a9.put (some 20) v) w' := hK
        have hb := hR rfl
        have d1 : a9.tmps.getD 1 undef = .pointer (some ⟨bC, 0, none⟩) := hk 1 (by kernel_rfl)
        have t8 := (hb.cell (p := ⟨bC, 0, none⟩) zC).trans c0
        clear hdep hk hm hR hall hb
        go_simp
        exact hK _ _ rfl (Below.refl _ _)
    · as_aux_lemma =>
        intro a9 W2 K hR hm hdep hk hK hall
        replace hK : ∀ v w', v = .pointer (some ⟨gU, p, none⟩) → Below W2.heap.size W2 w' → K (a9.put (some 21) v) w' := hK
        have hb := hR rfl
        have d18 : a9.tmps.getD 18 undef = .slice (some ⟨gU, 0, none⟩) u.self.ups.length u.self.ups.length := ((hdep ⟨4, .data⟩ (by simp) rfl (by decide)).2 rfl).2 rfl
        have d19 : a9.tmps.getD 19 undef = .int .i64 p := ((hdep ⟨5, .data⟩ (by simp) rfl (by decide)).2 rfl).2 rfl
        clear hdep hk hm hR hall hb
        go_simp
        exact hK _ _ rfl (Below.refl _ _)
    · intro a9 W2 K hR hm hdep hk hK hall
      replace hK : ∀ w', (∀ a', Go.Proofs.Ytidoaccidmmalaa.MacP.Ended _ _ _ _ a9 a' → _) → K a9 w' := hK
      obtain ⟨hsp, hn, hdf⟩ := hall rfl
      have hb := hR rfl
      have t0 := (hb.cell (p := ⟨gU, p, none⟩) zI).trans n0
      have u0 := (hb.frozen (p := ⟨gU, p, none⟩) zI).trans f0
      have h20 : a9.tmps.getD 20 undef = .bool true := hsp 6 (by decide) rfl
      have h21 : a9.tmps.getD 21 undef = .pointer (some ⟨gU, p, none⟩) := hsp 7 (by decide) rfl
      obtain ⟨w9, hwS⟩ : ∃ W, W = (W2.setCell ⟨gU, p, none⟩ (.bool true)) := ⟨_, rfl⟩
      have hKK := Lib.hid (hK w9)
      have H9 := Lib.hid (show OwnT w9 B bO (u.upAt p true) gC gU gI gS by rw [hwS]; exact (H.out.below hb).setU hpu9.out true)
      have B9 := Lib.hid (show Below B W w9 by rw [hwS]; exact Bx9.out.trans (grown_trans1 hb hBW.out H.out.b.lu))
      clear hK hsp hR hall hm hdep hb
      replace hn := Lib.hid hn
      replace hk := Lib.hid hk
      have q20 : a9.tmps[20]?.getD undef = .bool true := by simpa [Array.getD_eq_getD_getElem?] using h20
      clear h20
      have q21 : a9.tmps[21]?.getD undef = .pointer (some ⟨gU, p, none⟩) := by simpa [Array.getD_eq_getD_getElem?] using h21
      clear h21
      go_simp
      rw [← hwS]
      refine hKK.out ?_
      rintro am ⟨h1', h2', h3, h4⟩
      have hn2 := h1'.trans hn.out
      have hdf2 := h2'.trans hdf
      replace hk := hk.out
      clear hwS hn hdf h1' h2' q20 q21
      have s0 : am.tmps.getD 0 undef = .pointer (some ⟨bO, 0, none⟩) := (h3 0 (by decide +revert)).trans (hk 0 (by kernel_rfl))
      have s1 : am.tmps.getD 1 undef = .pointer (some ⟨bC, 0, none⟩) := (h3 1 (by decide +revert)).trans (hk 1 (by kernel_rfl))
      have s2 : am.tmps.getD 2 undef = .pointer (some ⟨bP, 0, none⟩) := (h3 2 (by decide +revert)).trans (hk 2 (by kernel_rfl))
      clear hk hKK h3 h4
      obtain ⟨tm, df⟩ := am
      have e := arr_out tm 22 hn2
      replace e : tm = #[tm.getD 0 undef, tm.getD 1 undef, tm.getD 2 undef, tm.getD 3 undef, tm.getD 4 undef, tm.getD 5 undef, tm.getD 6 undef, tm.getD 7 undef, tm.getD 8 undef, tm.getD 9 undef, tm.getD 10 undef, tm.getD 11 undef, tm.getD 12 undef, tm.getD 13 undef, tm.getD 14 undef, tm.getD 15 undef, tm.getD 16 undef, tm.getD 17 undef, tm.getD 18 undef, tm.getD 19 undef, tm.getD 20 undef, tm.getD 21 undef] := e
      simp only at s0 s1 s2 hdf2
      rw [s0, s1, s2] at e
      subst hdf2
      clear s0 s1 s2 hn2
      generalize tm.getD 3 undef = u3 at e
      generalize tm.getD 4 undef = u4 at e
      generalize tm.getD 5 undef = u5 at e
      generalize tm.getD 6 undef = u6 at e
      generalize tm.getD 7 undef = u7 at e
      generalize tm.getD 8 undef = u8 at e
      generalize tm.getD 9 undef = u9 at e
      generalize tm.getD 10 undef = u10 at e
      generalize tm.getD 11 undef = u11 at e
      generalize tm.getD 12 undef = u12 at e
      generalize tm.getD 13 undef = u13 at e
      generalize tm.getD 14 undef = u14 at e
      generalize tm.getD 15 undef = u15 at e
      generalize tm.getD 16 undef = u16 at e
      generalize tm.getD 17 undef = u17 at e
      generalize tm.getD 18 undef = u18 at e
      generalize tm.getD 19 undef = u19 at e
      generalize tm.getD 20 undef = u20 at e
      generalize tm.getD 21 undef = u21 at e
      subst e
      go_end0
      exact ⟨rfl, H9.out, B9.out⟩
  | false =>
    obtain ⟨n0, n1, n2, n3, n4, n5, zI⟩ := H.out.ni (info_at hpl)
    have f0 := H.out.b.n.free (p * 6)
    have f1 := H.out.b.n.free (p * 6 + 1)
    have f2 := H.out.b.n.free (p * 6 + 2)
    have f3 := H.out.b.n.free (p * 6 + 3)
    have f4 := H.out.b.n.free (p * 6 + 4)
    have f5 := H.out.b.n.free (p * 6 + 5)
    have zO := H.out.x.lt
    have o3 : W.cell? ⟨bO, 3, none⟩ = some (.slice (some ⟨gI, 0, none⟩) t.self.infos.length t.self.infos.length) := H.out.c (i := 3) rfl
    replace hu : t.know p N0 = u := hu
    go_upto_region 1 with fail
    refine Go.Proofs.Ytidoaccidmmalaa.MacP.wp_region_free (by kernel_rfl) (fun ix => match ix with | 0 => 6 | 1 => 7 | 2 => 8 | 3 => 9 | 4 => 10 | 5 => 11 | 6 => 12 | 7 => 13 | _ => 0) 0 8 (fun _ => false) (fun _ => .bool true) (by decide) (by decide) rfl rfl (by kernel_rfl) (by kernel_rfl) (by kernel_rfl) (fun W' => Below W.heap.size W W') (fun W' W'' => Below W'.heap.size W' W'') (fun W' h => h) (fun W' W'' h h' => bt h h') (fun W' W'' h h' => bt h h') (fun i v _ => match i with | 0 => v = .pointer (some ⟨bO, 0, none⟩) | 1 => v = .pointer (some ⟨bO, 0, none⟩) | 2 => v = .pointer (some ⟨bO, 0, none⟩) | 3 => v = .pointer (some ⟨bO, 3, none⟩) | 4 => v = .slice (some ⟨gI, 0, none⟩) t.self.infos.length t.self.infos.length | 5 => v = .int .i64 p | 6 => v = .agg #[.bool false, .int .i64 0, .int .i64 0, .int .i64 0, .int .i64 0, .int .i64 0] | 7 => v = .pointer (some ⟨gI, p * 6, none⟩) | _ => True) (fun i v W W' h _ => h) (fun i v W W' _ h _ _ => h) ?_
    refine ⟨?_, ?_, ?_, ?_, ?_, ?_, ?_, ?_, ?_, trivial⟩
    · as_aux_lemma =>
        intro a9 W2 K hR hm hdep hk hK hall
        replace hK : ∀ v w', v = .pointer (some ⟨bO, 0, none⟩) → Below W2.heap.size W2 w' → K (a9.put (some 6) v) w' := hK
        have hb := hR rfl
        have d0 : a9.tmps.getD 0 undef = .pointer (some ⟨bO, 0, none⟩) := hk 0 (by kernel_rfl)
        clear hdep hk hm hR hall hb
        go_simp
        exact hK _ _ rfl (Below.refl _ _)
    · as_aux_lemma =>
        intro a9 W2 K hR hm hdep hk hK hall
        replace hK : ∀ v w', v = .pointer (some ⟨bO, 0, none⟩) → Below W2.heap.size W2 w' → K (a9.put (some 7) v) w' := hK
        have hb := hR rfl
        have d6 : a9.tmps.getD 6 undef = .pointer (some ⟨bO, 0, none⟩) := ((hdep ⟨0, .data⟩ (by simp) rfl (by decide)).2 rfl).2 rfl
        clear hdep hk hm hR hall hb
        go_simp
        exact hK _ _ rfl (Below.refl _ _)
    · as_aux_lemma =>
        intro a9 W2 K hR hm hdep hk hK hall
        replace hK : ∀ v w', v = .pointer (some ⟨bO, 0, none⟩) → Below W2.heap.size W2 w' → K (a9.put (some 8) v) w' := hK
        have hb := hR rfl
        have d7 : a9.tmps.getD 7 undef = .pointer (some ⟨bO, 0, none⟩) := ((hdep ⟨1, .data⟩ (by simp) rfl (by decide)).2 rfl).2 rfl
        clear hdep hk hm hR hall hb
        go_simp
        exact hK _ _ rfl (Below.refl _ _)
    · as_aux_lemma =>
        intro a9 W2 K hR hm hdep hk hK hall
        replace hK : ∀ v w', v = .pointer (some ⟨bO, 3, none⟩) → Below W2.heap.size W2 w' → K (a9.put (some 9) v) w' := hK
        have hb := hR rfl
        have d8 : a9.tmps.getD 8 undef = .pointer (some ⟨bO, 0, none⟩) := ((hdep ⟨2, .data⟩ (by simp) rfl (by decide)).2 rfl).2 rfl
        clear hdep hk hm hR hall hb
        go_simp
        exact hK _ _ rfl (Below.refl _ _)
    · as_aux_lemma =>
        intro a9 W2 K hR hm hdep hk hK hall
        replace hK : ∀ v w', v = .slice (some ⟨gI, 0, none⟩) t.self.infos.length t.self.infos.length → Below W2.heap.size W2 w' → K (a9.put (some 10) v) w' := hK
        have hb := hR rfl
        have d9 : a9.tmps.getD 9 undef = .pointer (some ⟨bO, 3, none⟩) := ((hdep ⟨3, .data⟩ (by simp) rfl (by decide)).2 rfl).2 rfl
        have t3 := (hb.cell (p := ⟨bO, 3, none⟩) zO).trans o3
        clear hdep hk hm hR hall hb
        go_simp
        exact hK _ _ rfl (Below.refl _ _)
    · as_aux_lemma =>
        intro a9 W2 K hR hm hdep hk hK hall
        replace hK : ∀ v w', v = .int .i64 p → Below W2.heap.size W2 w' → K (a9.put (some 11) v) w' := hK
        have hb := hR rfl
        have d2 : a9.tmps.getD 2 undef = .pointer (some ⟨bP, 0, none⟩) := hk 2 (by kernel_rfl)
        have t9 := (hb.cell (p := ⟨bP, 0, none⟩) zP).trans p0
        clear hdep hk hm hR hall hb
        go_simp
        exact hK _ _ rfl (Below.refl _ _)
    · as_aux_lemma =>
        intro a9 W2 K hR hm hdep hk hK hall
        replace hK : ∀ v w', v = .agg #[.bool false, .int .i64 0, .int .i64 0, .int .i64 0, .int .i64 0, .int .i64 0] → Below W2.heap.size W2 w' → K (a9.put (some 12) v) w' := hK
        have hb := hR rfl
        clear hdep hk hm hR hall hb
        go_simp
        exact hK _ _ rfl (Below.refl _ _)
    · as_aux_lemma =>
        intro a9 W2 K hR hm hdep hk hK hall
        replace hK : ∀ v w', v = .pointer (some ⟨gI, p * 6, none⟩) → Below W2.heap.size W2 w' → K (a9.put (some 13) v) w' := hK
        have hb := hR rfl
        have d10 : a9.tmps.getD 10 undef = .slice (some ⟨gI, 0, none⟩) t.self.infos.length t.self.infos.length := ((hdep ⟨4, .data⟩ (by simp) rfl (by decide)).2 rfl).2 rfl
        have d11 : a9.tmps.getD 11 undef = .int .i64 p := ((hdep ⟨5, .data⟩ (by simp) rfl (by decide)).2 rfl).2 rfl
        clear hdep hk hm hR hall hb
        go_simp
        exact hK _ _ rfl (Below.refl _ _)
    · intro a9 W2 K hR hm hdep hk hK hall
      replace hK : ∀ w', (∀ a', Go.Proofs.Ytidoaccidmmalaa.MacP.Ended _ _ _ _ a9 a' → _) → K a9 w' := hK
      obtain ⟨hsp, hn, hdf⟩ := hall rfl
      have hb := hR rfl
      have t0 := (hb.cell (p := ⟨gI, p * 6, none⟩) zI).trans n0
      have u0 := (hb.frozen (p := ⟨gI, p * 6, none⟩) zI).trans f0
      have t1 := (hb.cell (p := ⟨gI, p * 6 + 1, none⟩) zI).trans n1
      have u1 := (hb.frozen (p := ⟨gI, p * 6 + 1, none⟩) zI).trans f1
      have t2 := (hb.cell (p := ⟨gI, p * 6 + 2, none⟩) zI).trans n2
      have u2 := (hb.frozen (p := ⟨gI, p * 6 + 2, none⟩) zI).trans f2
      have t3 := (hb.cell (p := ⟨gI, p * 6 + 3, none⟩) zI).trans n3
      have u3 := (hb.frozen (p := ⟨gI, p * 6 + 3, none⟩) zI).trans f3
      have t4 := (hb.cell (p := ⟨gI, p * 6 + 4, none⟩) zI).trans n4
      have u4 := (hb.frozen (p := ⟨gI, p * 6 + 4, none⟩) zI).trans f4
      have t5 := (hb.cell (p := ⟨gI, p * 6 + 5, none⟩) zI).trans n5
      have u5 := (hb.frozen (p := ⟨gI, p * 6 + 5, none⟩) zI).trans f5
      have h12 : a9.tmps.getD 12 undef = .agg #[.bool false, .int .i64 0, .int .i64 0, .int .i64 0, .int .i64 0, .int .i64 0] := hsp 6 (by decide) rfl
      have h13 : a9.tmps.getD 13 undef = .pointer (some ⟨gI, p * 6, none⟩) := hsp 7 (by decide) rfl
      obtain ⟨w8, hwS⟩ : ∃ W, W = ((((((W2.setCell ⟨gI, p * 6, none⟩ (.bool false)).setCell ⟨gI, p * 6 + 1, none⟩ (.int .i64 0)).setCell ⟨gI, p * 6 + 2, none⟩ (.int .i64 0)).setCell ⟨gI, p * 6 + 3, none⟩ (.int .i64 0)).setCell ⟨gI, p * 6 + 4, none⟩ (.int .i64 0)).setCell ⟨gI, p * 6 + 5, none⟩ (.int .i64 0)) := ⟨_, rfl⟩
      have hKK := Lib.hid (hK w8)
      have H8 := Lib.hid (show OwnT w8 B bO u gC gU gI gS by rw [hwS, ← hu]; exact (H.out.below hb).setN hpl N0)
      have B8 := Lib.hid (show Below B W w8 by rw [hwS]; exact grown_trans6 hb hB.out H.out.b.ln)
      have hBW := Lib.hid (show B ≤ w8.heap.size from Nat.le_trans hB.out B8.out.size)
      have HC2 := Lib.hid (show Bx w8 bC 4 #[.bool false] from (B8.out.block bC hlP.out.1).trans HC'.out)
      have HP2 := Lib.hid (show Bx w8 bP 3 #[.int .i64 p] from (B8.out.block bP hlP.out.2).trans HP'.out)
      clear hK hsp hR hall hm hdep hb
      replace hn := Lib.hid hn
      replace hk := Lib.hid hk
      have q12 : a9.tmps[12]?.getD undef = .agg #[.bool false, .int .i64 0, .int .i64 0, .int .i64 0, .int .i64 0, .int .i64 0] := by simpa [Array.getD_eq_getD_getElem?] using h12
      clear h12
      have q13 : a9.tmps[13]?.getD undef = .pointer (some ⟨gI, p * 6, none⟩) := by simpa [Array.getD_eq_getD_getElem?] using h13
      clear h13
      go_simp
      rw [← hwS]
      refine hKK.out ?_
      rintro am ⟨h1', h2', h3, h4⟩
      have hn2 := h1'.trans hn.out
      have hdf2 := h2'.trans hdf
      replace hk := hk.out
      clear hwS hn hdf h1' h2' q12 q13
      have s0 : am.tmps.getD 0 undef = .pointer (some ⟨bO, 0, none⟩) := (h3 0 (by decide +revert)).trans (hk 0 (by kernel_rfl))
      have s1 : am.tmps.getD 1 undef = .pointer (some ⟨bC, 0, none⟩) := (h3 1 (by decide +revert)).trans (hk 1 (by kernel_rfl))
      have s2 : am.tmps.getD 2 undef = .pointer (some ⟨bP, 0, none⟩) := (h3 2 (by decide +revert)).trans (hk 2 (by kernel_rfl))
      clear hk hKK h3 h4
      obtain ⟨tm, df⟩ := am
      have e := arr_out tm 22 hn2
      replace e : tm = #[tm.getD 0 undef, tm.getD 1 undef, tm.getD 2 undef, tm.getD 3 undef, tm.getD 4 undef, tm.getD 5 undef, tm.getD 6 undef, tm.getD 7 undef, tm.getD 8 undef, tm.getD 9 undef, tm.getD 10 undef, tm.getD 11 undef, tm.getD 12 undef, tm.getD 13 undef, tm.getD 14 undef, tm.getD 15 undef, tm.getD 16 undef, tm.getD 17 undef, tm.getD 18 undef, tm.getD 19 undef, tm.getD 20 undef, tm.getD 21 undef] := e
      simp only at s0 s1 s2 hdf2
      rw [s0, s1, s2] at e
      subst hdf2
      clear s0 s1 s2 hn2
      generalize tm.getD 3 undef = u3 at e
      generalize tm.getD 4 undef = u4 at e
      generalize tm.getD 5 undef = u5 at e
      generalize tm.getD 6 undef = u6 at e
      generalize tm.getD 7 undef = u7 at e
      generalize tm.getD 8 undef = u8 at e
      generalize tm.getD 9 undef = u9 at e
      generalize tm.getD 10 undef = u10 at e
      generalize tm.getD 11 undef = u11 at e
      generalize tm.getD 12 undef = u12 at e
      generalize tm.getD 13 undef = u13 at e
      generalize tm.getD 14 undef = u14 at e
      generalize tm.getD 15 undef = u15 at e
      generalize tm.getD 16 undef = u16 at e
      generalize tm.getD 17 undef = u17 at e
      generalize tm.getD 18 undef = u18 at e
      generalize tm.getD 19 undef = u19 at e
      generalize tm.getD 20 undef = u20 at e
      generalize tm.getD 21 undef = u21 at e
      subst e
      clear c0 p0 zC zP zO zI o3 n0 n1 n2 n3 n4 n5 f0 f1 f2 f3 f4 f5
      obtain ⟨bu, hbu⟩ : ∃ b, u.self.ups[p]? = some b := ⟨_, List.getElem?_eq_getElem (by rw [hul]; exact hpu)⟩
      obtain ⟨n0, zI⟩ := H8.out.ui hbu
      have f0 := H8.out.b.u.free p
      have zO := H8.out.x.lt
      have o2 : w8.cell? ⟨bO, 2, none⟩ = some (.slice (some ⟨gU, 0, none⟩) u.self.ups.length u.self.ups.length) := H8.out.c (i := 2) rfl
      rw [hul] at o2
      have c0 := HC2.out.c (i := 0) rfl
      have p0 := HP2.out.c (i := 0) rfl
      have zC := HC2.out.lt
      have zP := HP2.out.lt
      have hpu9 := Lib.hid (show p < u.self.ups.length by rw [hul]; exact hpu)
      replace hul := Lib.hid hul
      replace hbu := Lib.hid hbu
      go_upto_region 2 with fail
      refine Go.Proofs.Ytidoaccidmmalaa.MacP.wp_region_free (by kernel_rfl) (fun ix => match ix with | 0 => 14 | 1 => 15 | 2 => 16 | 3 => 17 | 4 => 18 | 5 => 19 | 6 => 20 | 7 => 21 | _ => 0) 0 8 (fun _ => false) (fun _ => .bool true) (by decide) (by decide) rfl rfl (by kernel_rfl) (by kernel_rfl) (by kernel_rfl) (fun W' => Below w8.heap.size w8 W') (fun W' W'' => Below W'.heap.size W' W'') (fun W' h => h) (fun W' W'' h h' => bt h h') (fun W' W'' h h' => bt h h') (fun i v _ => match i with | 0 => v = .pointer (some ⟨bO, 0, none⟩) | 1 => v = .pointer (some ⟨bO, 0, none⟩) | 2 => v = .pointer (some ⟨bO, 0, none⟩) | 3 => v = .pointer (some ⟨bO, 2, none⟩) | 4 => v = .slice (some ⟨gU, 0, none⟩) t.self.ups.length t.self.ups.length | 5 => v = .int .i64 p | 6 => v = .bool false | 7 => v = .pointer (some ⟨gU, p, none⟩) | _ => True) (fun i v W W' h _ => h) (fun i v W W' _ h _ _ => h) ?_
      refine ⟨?_, ?_, ?_, ?_, ?_, ?_, ?_, ?_, ?_, trivial⟩
      · as_aux_lemma =>
          intro a9 W2 K hR hm hdep hk hK hall
          replace hK : ∀ v w', v = .pointer (some ⟨bO, 0, none⟩) → Below W2.heap.size W2 w' → K (a9.put (some 14) v) w' := hK
          have hb := hR rfl
          have d0 : a9.tmps.getD 0 undef = .pointer (some ⟨bO, 0, none⟩) := hk 0 (by kernel_rfl)
          clear hdep hk hm hR hall hb
          go_simp
          exact hK _ _ rfl (Below.refl _ _)
      · as_aux_lemma =>
          intro a9 W2 K hR hm hdep hk hK hall
          replace hK : ∀ v w', v = .pointer (some ⟨bO, 0, none⟩) → Below W2.heap.size W2 w' → K (a9.put (some 15) v) w' := hK
          have hb := hR rfl
          have d14 : a9.tmps.getD 14 undef = .pointer (some ⟨bO, 0, none⟩) := ((hdep ⟨0, .data⟩ (by simp) rfl (by decide)).2 rfl).2 rfl
          clear hdep hk hm hR hall hb
          go_simp
          exact hK _ _ rfl (Below.refl _ _)
      · as_aux_lemma =>
          intro a9 W2 K hR hm hdep hk hK hall
          replace hK : ∀ v w', v = .pointer (some ⟨bO, 0, none⟩) → Below W2.heap.size W2 w' → K (a9.put (some 16) v) w' := hK
          have hb := hR rfl
          have d15 : a9.tmps.getD 15 undef = .pointer (some ⟨bO, 0, none⟩) := ((hdep ⟨1, .data⟩ (by simp) rfl (by decide)).2 rfl).2 rfl
          clear hdep hk hm hR hall hb
          go_simp
          exact hK _ _ rfl (Below.refl _ _)
      · as_aux_lemma =>
          intro a9 W2 K hR hm hdep hk hK hall
          replace hK : ∀ v w', v = .pointer (some ⟨bO, 2, none⟩) → Below W2.heap.size W2 w' → K (a9.put (some 17) v) w' := hK
          have hb := hR rfl
          have d16 : a9.tmps.getD 16 undef = .pointer (some ⟨bO, 0, none⟩) := ((hdep ⟨2, .data⟩ (by simp) rfl (by decide)).2 rfl).2 rfl
          clear hdep hk hm hR hall hb
          go_simp
          exact hK _ _ rfl (Below.refl _ _)
      · as_aux_lemma =>
          intro a9 W2 K hR hm hdep hk hK hall
          replace hK : ∀ v w', v = .slice (some ⟨gU, 0, none⟩) t.self.ups.length t.self.ups.length → Below W2.heap.size W2 w' → K (a9.put (some 18) v) w' := hK
          have hb := hR rfl
          have d17 : a9.tmps.getD 17 undef = .pointer (some ⟨bO, 2, none⟩) := ((hdep ⟨3, .data⟩ (by simp) rfl (by decide)).2 rfl).2 rfl
          have t2 := (hb.cell (p := ⟨bO, 2, none⟩) zO).trans o2
          clear hdep hk hm hR hall hb
          go_simp
          exact hK _ _ rfl (Below.refl _ _)
      · as_aux_lemma =>
          intro a9 W2 K hR hm hdep hk hK hall
          replace hK : ∀ v w', v = .int .i64 p → Below W2.heap.size W2 w' → K (a9.put (some 19) v) w' := hK
          have hb := hR rfl
          have d2 : a9.tmps.getD 2 undef = .pointer (some ⟨bP, 0, none⟩) := hk 2 (by kernel_rfl)
          have t9 := (hb.cell (p := ⟨bP, 0, none⟩) zP).trans p0
          clear hdep hk hm hR hall hb
          go_simp
          exact hK _ _ rfl (Below.refl _ _)
      · as_aux_lemma =>
          intro a9 W2 K hR hm hdep hk hK hall
          replace hK : ∀ v w', v = .bool false → Below W2.heap.size W2 w' → K (a9.put (some 20) v) w' := hK
          have hb := hR rfl
          have d1 : a9.tmps.getD 1 undef = .pointer (some ⟨bC, 0, none⟩) := hk 1 (by kernel_rfl)
          have t8 := (hb.cell (p := ⟨bC, 0, none⟩) zC).trans c0
          clear hdep hk hm hR hall hb
          go_simp
          exact hK _ _ rfl (Below.refl _ _)
      · as_aux_lemma =>
          intro a9 W2 K hR hm hdep hk hK hall
          replace hK : ∀ v w', v = .pointer (some ⟨gU, p, none⟩) → Below W2.heap.size W2 w' → K (a9.put (some 21) v) w' := hK
          have hb := hR rfl
          have d18 : a9.tmps.getD 18 undef = .slice (some ⟨gU, 0, none⟩) t.self.ups.length t.self.ups.length := ((hdep ⟨4, .data⟩ (by simp) rfl (by decide)).2 rfl).2 rfl
          have d19 : a9.tmps.getD 19 undef = .int .i64 p := ((hdep ⟨5, .data⟩ (by simp) rfl (by decide)).2 rfl).2 rfl
          clear hdep hk hm hR hall hb
          go_simp
          exact hK _ _ rfl (Below.refl _ _)
      · intro a9 W2 K hR hm hdep hk hK hall
        replace hK : ∀ w', (∀ a', Go.Proofs.Ytidoaccidmmalaa.MacP.Ended _ _ _ _ a9 a' → _) → K a9 w' := hK
        obtain ⟨hsp, hn, hdf⟩ := hall rfl
        have hb := hR rfl
        have t0 := (hb.cell (p := ⟨gU, p, none⟩) zI).trans n0
        have u0 := (hb.frozen (p := ⟨gU, p, none⟩) zI).trans f0
        have h20 : a9.tmps.getD 20 undef = .bool false := hsp 6 (by decide) rfl
        have h21 : a9.tmps.getD 21 undef = .pointer (some ⟨gU, p, none⟩) := hsp 7 (by decide) rfl
        obtain ⟨w9, hwS⟩ : ∃ W, W = (W2.setCell ⟨gU, p, none⟩ (.bool false)) := ⟨_, rfl⟩
        have hKK := Lib.hid (hK w9)
        have H9 := Lib.hid (show OwnT w9 B bO (u.upAt p false) gC gU gI gS by rw [hwS]; exact (H8.out.below hb).setU hpu9.out false)
        have B9 := Lib.hid (show Below B W w9 by rw [hwS]; exact B8.out.trans (grown_trans1 hb hBW.out H8.out.b.lu))
        clear hK hsp hR hall hm hdep hb
        replace hn := Lib.hid hn
        replace hk := Lib.hid hk
        have q20 : a9.tmps[20]?.getD undef = .bool false := by simpa [Array.getD_eq_getD_getElem?] using h20
        clear h20
        have q21 : a9.tmps[21]?.getD undef = .pointer (some ⟨gU, p, none⟩) := by simpa [Array.getD_eq_getD_getElem?] using h21
        clear h21
        go_simp
        rw [← hwS]
        refine hKK.out ?_
        rintro am ⟨h1', h2', h3, h4⟩
        have hn2 := h1'.trans hn.out
        have hdf2 := h2'.trans hdf
        replace hk := hk.out
        clear hwS hn hdf h1' h2' q20 q21
        have s0 : am.tmps.getD 0 undef = .pointer (some ⟨bO, 0, none⟩) := (h3 0 (by decide +revert)).trans (hk 0 (by kernel_rfl))
        have s1 : am.tmps.getD 1 undef = .pointer (some ⟨bC, 0, none⟩) := (h3 1 (by decide +revert)).trans (hk 1 (by kernel_rfl))
        have s2 : am.tmps.getD 2 undef = .pointer (some ⟨bP, 0, none⟩) := (h3 2 (by decide +revert)).trans (hk 2 (by kernel_rfl))
        clear hk hKK h3 h4
        obtain ⟨tm, df⟩ := am
        have e := arr_out tm 22 hn2
        replace e : tm = #[tm.getD 0 undef, tm.getD 1 undef, tm.getD 2 undef, tm.getD 3 undef, tm.getD 4 undef, tm.getD 5 undef, tm.getD 6 undef, tm.getD 7 undef, tm.getD 8 undef, tm.getD 9 undef, tm.getD 10 undef, tm.getD 11 undef, tm.getD 12 undef, tm.getD 13 undef, tm.getD 14 undef, tm.getD 15 undef, tm.getD 16 undef, tm.getD 17 undef, tm.getD 18 undef, tm.getD 19 undef, tm.getD 20 undef, tm.getD 21 undef] := e
        simp only at s0 s1 s2 hdf2
        rw [s0, s1, s2] at e
        subst hdf2
        clear s0 s1 s2 hn2
        generalize tm.getD 3 undef = u3 at e
        generalize tm.getD 4 undef = u4 at e
        generalize tm.getD 5 undef = u5 at e
        generalize tm.getD 6 undef = u6 at e
        generalize tm.getD 7 undef = u7 at e
        generalize tm.getD 8 undef = u8 at e
        generalize tm.getD 9 undef = u9 at e
        generalize tm.getD 10 undef = u10 at e
        generalize tm.getD 11 undef = u11 at e
        generalize tm.getD 12 undef = u12 at e
        generalize tm.getD 13 undef = u13 at e
        generalize tm.getD 14 undef = u14 at e
        generalize tm.getD 15 undef = u15 at e
        generalize tm.getD 16 undef = u16 at e
        generalize tm.getD 17 undef = u17 at e
        generalize tm.getD 18 undef = u18 at e
        generalize tm.getD 19 undef = u19 at e
        generalize tm.getD 20 undef = u20 at e
        generalize tm.getD 21 undef = u21 at e
        subst e
        go_end0
        exact ⟨rfl, H9.out, B9.out⟩
theorem link1_act {w : World} {n bC bP p : Nat} {t : T} {up : Bool} (hpl : p < t.self.infos.length) (hpu : p < t.self.ups.length) (hn8 : t.self.infos.length ≤ 8) (hu8 : t.self.ups.length ≤ 8) (HC : Bx w bC 4 #[.bool up]) (HP : Bx w bP 3 #[.int .i64 p]) (hn : n = w.heap.size) : ActB 53 #[.pointer (some ⟨bC, 0, none⟩), .pointer (some ⟨bP, 0, none⟩)] n w t (t.linked p up) := fun W B bO gC gU gI gS hb h1 h2 h => by
  subst hn
  exact link1_any hpl hpu hn8 hu8 (HC.below hb) (HP.below hb) ⟨Nat.lt_of_lt_of_le HC.lt h1, Nat.lt_of_lt_of_le HP.lt h1⟩ h2 h
theorem linked_eq {t : T} {p : Nat} {up : Bool} (hok : t.ok = true) (hp : p < t.states.length) : t.linked p up = (t.blankAt p up).upAt p up := by
  unfold T.linked T.blankAt
  cases up with
  | false => rfl
  | true =>
    simp only [if_true, Bool.true_and]
    cases hu : t.self.up p with
    | true => rfl
    | false =>
      have hs := (ok_headT hok).1
      have hl := (ok_headT hok).2.1
      have hh := head_iff.1 (ok_head hs)
      have hpi : p < t.self.infos.length := by omega
      have hi : t.self.info p = N0 := by
        have h3 := ok_info hs (p := p) (by omega)
        cases hh2 : (t.self.info p).has with
        | false => exact h3.2.2 hh2
        | true => have := (h3.2.1 hh2).1; rw [hu] at this; cases this
      simp only [Bool.false_eq_true, if_false]
      rw [know_idle hi hpi]
end Go.Proofs.Ytidoaccidmmalaa.StpP

/-
  The closure of stp.Tick.
-/
namespace Go.Proofs.Ytidoaccidmmalaa.StpP
open Go.Proofs.Ytidoaccidmmalaa.MacP (arr_out Wrote wp_region_ends outM)
open Go.RowKit Go.Sort Go.Proofs.Ytidoaccidmmalaa.SliceP Go.Proofs.Ytidoaccidmmalaa.BoxP Go.Proofs.Ytidoaccidmmalaa.VecP Go.Proofs.Ytidoaccidmmalaa.RoleP
open Go.Proofs.Ytidoaccidmmalaa.IntP (RowI SlI OwnI)
open Go.Proofs.Ytidoaccidmmalaa.BoolP (RowB SlB OwnB)
open Go.Proofs.Ytidoaccidmmalaa.PortP (okS roleS tickS sv)
set_option linter.unusedVariables false
set_option maxRecDepth 100000
/-- The first k aged. -/
def T.ag (t : T) (k : Nat) : T := ⟨⟨t.self.id, t.self.costs, t.self.ups, (t.self.infos.take k).map (StpP.aged t.mx) ++ t.self.infos.drop k⟩, t.states, t.mx, t.dl⟩
section
variable {t : T} {k : Nat}
theorem ag_zero (t : T) : t.ag 0 = t := by obtain ⟨⟨_, _, _, _⟩, _, _, _⟩ := t; simp [T.ag]
theorem ag_len : (t.ag k).self.infos.length = t.self.infos.length := by simp [T.ag]; omega
theorem ag_at (h : k < t.self.infos.length) : (t.ag k).self.infos[k]? = some (t.self.info k) := by
  unfold T.ag
  simp only
  rw [List.getElem?_append_right (by simp; omega), List.getElem?_drop]
  simp only [List.length_map, List.length_take, Nat.min_eq_left (Nat.le_of_lt h), Nat.sub_self, Nat.add_zero]
  exact info_at h
theorem ag_set (h : k < t.self.infos.length) : (t.ag k).know k (aged t.mx (t.self.info k)) = t.ag (k + 1) := by
  unfold T.know StpP.know T.ag
  simp only
  congr 2
  have hl : ((t.self.infos.take k).map (StpP.aged t.mx)).length = k := by rw [List.length_map, List.length_take]; omega
  rw [List.set_append_right _ _ (by omega), hl, Nat.sub_self, List.drop_eq_getElem_cons h, List.set_cons_zero, List.take_add_one, List.getElem?_eq_getElem h]
  have : t.self.info k = t.self.infos[k] := by have := info_at h; rw [List.getElem?_eq_getElem h] at this; exact (Option.some.inj this).symm
  rw [this]
  simp only [Option.toList_some, List.map_append, List.map_cons, List.map_nil, List.append_assoc, List.cons_append, List.nil_append]
theorem ag_all : t.ag t.self.infos.length = t.aged := by simp [T.ag, T.aged]
end
theorem tick1_enters : EntersT 49 := enters_of Try.func49 (by kernel_rfl) rfl
set_option maxHeartbeats 4000000 in
theorem tick1_any {W : World} {B bO : Nat} {t : T} {gC gU gI gS : Nat} (hok : t.ok = true) (hB : B ≤ W.heap.size) (h : OwnT W B bO t gC gU gI gS) :
    Calls Try.prog 49 #[.pointer (some ⟨bO, 0, none⟩)] W fun e W' => e = .returned (.tuple #[]) ∧ OwnT W' B bO t.aged gC gU gI gS ∧ Below B W W' := by
  have hs := (ok_headT hok).1
  have hm1 := (ok_headT hok).2.2
  have hh := (head_iff.1 (ok_head hs)).2
  have hn8 : t.self.infos.length ≤ 8 := by omega
  have hst : t.self.infos.length = t.states.length := by have := (ok_headT hok).2.1; omega
  have hinf := Lib.hid (show ∀ k, k < t.self.infos.length → (0 ≤ (t.self.info k).age ∧ (t.self.info k).age ≤ 255) ∧ ((t.self.info k).has = false → t.self.info k = N0) from fun k hk => by
    have := ok_info hs (p := k) (by omega)
    exact ⟨this.1, this.2.2⟩)
  have hm := Lib.hid hm1.1
  have H0 := Lib.hid h
  have hB0 := Lib.hid hB
  have zz := h.x.lt
  have o3 : W.cell? ⟨bO, 3, none⟩ = some (.slice (some ⟨gI, 0, none⟩) t.self.infos.length t.self.infos.length) := h.c (i := 3) rfl
  clear hok h hB hs hm1 hh hst
  go_enter Try.func49, Try.ntmps49
  go_wp2_with fail
  clear zz o3
  go_loopw [10] (fun i wr => ∃ k : Nat, k ≤ t.self.infos.length ∧ i = .int .i64 k ∧ OwnT wr B bO (t.ag k) gC gU gI gS ∧ Below B W wr) (fun i _ => t.self.infos.length - (intOf i).toNat)
  case atStart => exact ⟨0, by omega, rfl, by rw [ag_zero]; exact H0.out, (Below.refl _ _).mono hB0.out⟩
  case round =>
    clear H0
    obtain ⟨k, hk, rfl, H, hb9⟩ := hrel
    by_cases hkn : k < t.self.infos.length
    · have hkl : (k : Int) < (t.self.infos.length : Int) := by omega
      have hat := ag_at hkn
      obtain ⟨x, hx⟩ : ∃ x, t.self.info k = x := ⟨_, rfl⟩
      obtain ⟨y, hy⟩ : ∃ y, aged t.mx x = y := ⟨_, rfl⟩
      rw [hx] at hat
      have hxi := hinf.out k hkn
      rw [hx] at hxi
      have cO := Lib.hid fun (V : World) => older_to hxi.1 hxi.2 hy hm.out V
      obtain ⟨n0, n1, n2, n3, n4, n5, zI⟩ := H.ni hat
      have hag := Lib.hid (show (t.ag k).know k y = t.ag (k + 1) by rw [← hy, ← hx]; exact ag_set hkn)
      have zO := H.x.lt
      have o3 : wr.cell? ⟨bO, 3, none⟩ = some (.slice (some ⟨gI, 0, none⟩) (t.ag k).self.infos.length (t.ag k).self.infos.length) := H.c (i := 3) rfl
      rw [ag_len] at o3
      have o5 : wr.cell? ⟨bO, 5, none⟩ = some (.int .i64 t.mx) := H.c (i := 5) rfl
      have f0 := H.b.n.free (k * 6)
      have f1 := H.b.n.free (k * 6 + 1)
      have f2 := H.b.n.free (k * 6 + 2)
      have f3 := H.b.n.free (k * 6 + 3)
      have f4 := H.b.n.free (k * 6 + 4)
      have f5 := H.b.n.free (k * 6 + 5)
      have hkk := Lib.hid hkn
      have hpl := Lib.hid (show k < (t.ag k).self.infos.length by rw [ag_len]; exact hkn)
      have H' := Lib.hid H
      have hb' := Lib.hid hb9
      replace hx := Lib.hid hx
      replace hy := Lib.hid hy
      have hsw := Lib.hid (show B ≤ wr.heap.size from Nat.le_trans hB0.out hb9.size)
      clear hat H hb9 hxi
      go_upto_region 3 with fail
      obtain ⟨wa, hwa⟩ : ∃ V, V = wr.alloc (.cells #[.bool x.has, .int .i64 x.v.r, .int .i64 x.v.c, .int .i64 x.v.b, .int .i64 x.v.p, .int .i64 x.age] 66) := ⟨_, rfl⟩
      have ba : Below wr.heap.size wr wa := by rw [hwa]; exact (Below.refl _ _).alloc (Nat.le_refl _) _
      have Xa : Bx wa wr.heap.size 66 #[.bool x.has, .int .i64 x.v.r, .int .i64 x.v.c, .int .i64 x.v.b, .int .i64 x.v.p, .int .i64 x.age] := by rw [hwa]; exact Bx.new _ _ _ rfl
      rw [← hwa]
      have Ha := Lib.hid (H'.out.below ba)
      have Ba := Lib.hid (show Below B W wa from hb'.out.trans (ba.mono hsw.out))
      have hsa := Lib.hid (show B ≤ wa.heap.size from Nat.le_trans hsw.out ba.size)
      have a3 := (ba.cell (p := ⟨bO, 3, none⟩) zO).trans o3
      have a5 := (ba.cell (p := ⟨bO, 5, none⟩) zO).trans o5
      have m0 := (ba.cell (p := ⟨gI, k * 6, none⟩) zI).trans n0
      have g0 := (ba.frozen (p := ⟨gI, k * 6, none⟩) zI).trans f0
      have x0 := Xa.c (i := 0) rfl
      have m1 := (ba.cell (p := ⟨gI, k * 6 + 1, none⟩) zI).trans n1
      have g1 := (ba.frozen (p := ⟨gI, k * 6 + 1, none⟩) zI).trans f1
      have x1 := Xa.c (i := 1) rfl
      have m2 := (ba.cell (p := ⟨gI, k * 6 + 2, none⟩) zI).trans n2
      have g2 := (ba.frozen (p := ⟨gI, k * 6 + 2, none⟩) zI).trans f2
      have x2 := Xa.c (i := 2) rfl
      have m3 := (ba.cell (p := ⟨gI, k * 6 + 3, none⟩) zI).trans n3
      have g3 := (ba.frozen (p := ⟨gI, k * 6 + 3, none⟩) zI).trans f3
      have x3 := Xa.c (i := 3) rfl
      have m4 := (ba.cell (p := ⟨gI, k * 6 + 4, none⟩) zI).trans n4
      have g4 := (ba.frozen (p := ⟨gI, k * 6 + 4, none⟩) zI).trans f4
      have x4 := Xa.c (i := 4) rfl
      have m5 := (ba.cell (p := ⟨gI, k * 6 + 5, none⟩) zI).trans n5
      have g5 := (ba.frozen (p := ⟨gI, k * 6 + 5, none⟩) zI).trans f5
      have x5 := Xa.c (i := 5) rfl
      have zX := Xa.lt
      have zA := Nat.lt_of_lt_of_le zO ba.size
      have zJ := Nat.lt_of_lt_of_le zI ba.size
      obtain ⟨bX, hbX⟩ : ∃ b, wr.heap.size = b := ⟨_, rfl⟩
      rw [hbX] at zX x0 x1 x2 x3 x4 x5 ⊢
      clear hwa ba Xa o3 o5 zO zI n0 f0 n1 f1 n2 f2 n3 f3 n4 f4 n5 f5 H' hb' hbX
      refine Go.Proofs.Ytidoaccidmmalaa.MacP.wp_region_free (by kernel_rfl) (fun ix => match ix with | 0 => 15 | 1 => 16 | 2 => 17 | 3 => 18 | 4 => 19 | 5 => 20 | 6 => 21 | 7 => 22 | 8 => 23 | 9 => 24 | 10 => 25 | 11 => 26 | 12 => 27 | _ => 0) 0 13 (fun _ => false) (fun _ => .bool true) (by decide) (by decide) rfl rfl (by kernel_rfl) (by kernel_rfl) (by kernel_rfl) (fun W' => Below wa.heap.size wa W') (fun W' W'' => Below W'.heap.size W' W'') (fun W' h => h) (fun W' W'' h h' => bt h h') (fun W' W'' h h' => bt h h') (fun i v _ => match i with | 0 => v = .pointer (some ⟨bO, 0, none⟩) | 1 => v = .pointer (some ⟨bO, 0, none⟩) | 2 => v = .pointer (some ⟨bO, 0, none⟩) | 3 => v = .pointer (some ⟨bO, 3, none⟩) | 4 => v = .slice (some ⟨gI, 0, none⟩) t.self.infos.length t.self.infos.length | 5 => v = .int .i64 k | 6 => v = .agg #[.bool x.has, .int .i64 x.v.r, .int .i64 x.v.c, .int .i64 x.v.b, .int .i64 x.v.p, .int .i64 x.age] | 7 => v = .pointer (some ⟨bO, 0, none⟩) | 8 => v = .pointer (some ⟨bO, 0, none⟩) | 9 => v = .pointer (some ⟨bO, 5, none⟩) | 10 => v = .int .i64 t.mx | 11 => v = .agg #[.bool y.has, .int .i64 y.v.r, .int .i64 y.v.c, .int .i64 y.v.b, .int .i64 y.v.p, .int .i64 y.age] | 12 => v = .pointer (some ⟨gI, k * 6, none⟩) | _ => True) (fun i v W W' h _ => h) (fun i v W W' _ h _ _ => h) ?_
      refine ⟨?_, ?_, ?_, ?_, ?_, ?_, ?_, ?_, ?_, ?_, ?_, ?_, ?_, ?_, trivial⟩
      · as_aux_lemma =>
          intro a9 W2 K hR hm hdep hk hK hall
          replace hK : ∀ v w', v = .pointer (some ⟨bO, 0, none⟩) → Below W2.heap.size W2 w' → K (a9.put (some 15) v) w' := hK
          have hb := hR rfl
          have d0 : a9.tmps.getD 0 undef = .pointer (some ⟨bO, 0, none⟩) := hk 0 (by kernel_rfl)
          clear hdep hk hm hR hall hb
          go_simp
          exact hK _ _ rfl (Below.refl _ _)
      · as_aux_lemma =>
          intro a9 W2 K hR hm hdep hk hK hall
          replace hK : ∀ v w', v = .pointer (some ⟨bO, 0, none⟩) → Below W2.heap.size W2 w' → K (a9.put (some 16) v) w' := hK
          have hb := hR rfl
          have d15 : a9.tmps.getD 15 undef = .pointer (some ⟨bO, 0, none⟩) := ((hdep ⟨0, .data⟩ (by simp) rfl (by decide)).2 rfl).2 rfl
          clear hdep hk hm hR hall hb
          go_simp
          exact hK _ _ rfl (Below.refl _ _)
      · as_aux_lemma =>
          intro a9 W2 K hR hm hdep hk hK hall
          replace hK : ∀ v w', v = .pointer (some ⟨bO, 0, none⟩) → Below W2.heap.size W2 w' → K (a9.put (some 17) v) w' := hK
          have hb := hR rfl
          have d16 : a9.tmps.getD 16 undef = .pointer (some ⟨bO, 0, none⟩) := ((hdep ⟨1, .data⟩ (by simp) rfl (by decide)).2 rfl).2 rfl
          clear hdep hk hm hR hall hb
          go_simp
          exact hK _ _ rfl (Below.refl _ _)
      · as_aux_lemma =>
          intro a9 W2 K hR hm hdep hk hK hall
          replace hK : ∀ v w', v = .pointer (some ⟨bO, 3, none⟩) → Below W2.heap.size W2 w' → K (a9.put (some 18) v) w' := hK
          have hb := hR rfl
          have d17 : a9.tmps.getD 17 undef = .pointer (some ⟨bO, 0, none⟩) := ((hdep ⟨2, .data⟩ (by simp) rfl (by decide)).2 rfl).2 rfl
          clear hdep hk hm hR hall hb
          go_simp
          exact hK _ _ rfl (Below.refl _ _)
      · as_aux_lemma =>
          intro a9 W2 K hR hm hdep hk hK hall
          replace hK : ∀ v w', v = .slice (some ⟨gI, 0, none⟩) t.self.infos.length t.self.infos.length → Below W2.heap.size W2 w' → K (a9.put (some 19) v) w' := hK
          have hb := hR rfl
          have d18 : a9.tmps.getD 18 undef = .pointer (some ⟨bO, 3, none⟩) := ((hdep ⟨3, .data⟩ (by simp) rfl (by decide)).2 rfl).2 rfl
          have t3 := (hb.cell (p := ⟨bO, 3, none⟩) zA).trans a3
          clear hdep hk hm hR hall hb
          go_simp
          exact hK _ _ rfl (Below.refl _ _)
      · as_aux_lemma =>
          intro a9 W2 K hR hm hdep hk hK hall
          replace hK : ∀ v w', v = .int .i64 k → Below W2.heap.size W2 w' → K (a9.put (some 20) v) w' := hK
          have hb := hR rfl
          have d2 : a9.tmps.getD 2 undef = .int .i64 k := hk 2 (by kernel_rfl)
          clear hdep hk hm hR hall hb
          go_simp
          exact hK _ _ rfl (Below.refl _ _)
      · as_aux_lemma =>
          intro a9 W2 K hR hm hdep hk hK hall
          replace hK : ∀ v w', v = .agg #[.bool x.has, .int .i64 x.v.r, .int .i64 x.v.c, .int .i64 x.v.b, .int .i64 x.v.p, .int .i64 x.age] → Below W2.heap.size W2 w' → K (a9.put (some 21) v) w' := hK
          have hb := hR rfl
          have d3 : a9.tmps.getD 3 undef = .pointer (some ⟨bX, 0, none⟩) := hk 3 (by kernel_rfl)
          have t0 := (hb.cell (p := ⟨bX, 0, none⟩) zX).trans x0
          have t1 := (hb.cell (p := ⟨bX, 1, none⟩) zX).trans x1
          have t2 := (hb.cell (p := ⟨bX, 2, none⟩) zX).trans x2
          have t3 := (hb.cell (p := ⟨bX, 3, none⟩) zX).trans x3
          have t4 := (hb.cell (p := ⟨bX, 4, none⟩) zX).trans x4
          have t5 := (hb.cell (p := ⟨bX, 5, none⟩) zX).trans x5
          clear hdep hk hm hR hall hb
          go_simp
          exact hK _ _ rfl (Below.refl _ _)
      · as_aux_lemma =>
          intro a9 W2 K hR hm hdep hk hK hall
          replace hK : ∀ v w', v = .pointer (some ⟨bO, 0, none⟩) → Below W2.heap.size W2 w' → K (a9.put (some 22) v) w' := hK
          have hb := hR rfl
          have d0 : a9.tmps.getD 0 undef = .pointer (some ⟨bO, 0, none⟩) := hk 0 (by kernel_rfl)
          clear hdep hk hm hR hall hb
          go_simp
          exact hK _ _ rfl (Below.refl _ _)
      · as_aux_lemma =>
          intro a9 W2 K hR hm hdep hk hK hall
          replace hK : ∀ v w', v = .pointer (some ⟨bO, 0, none⟩) → Below W2.heap.size W2 w' → K (a9.put (some 23) v) w' := hK
          have hb := hR rfl
          have d22 : a9.tmps.getD 22 undef = .pointer (some ⟨bO, 0, none⟩) := ((hdep ⟨7, .data⟩ (by simp) rfl (by decide)).2 rfl).2 rfl
          clear hdep hk hm hR hall hb
          go_simp
          exact hK _ _ rfl (Below.refl _ _)
      · as_aux_lemma =>
          intro a9 W2 K hR hm hdep hk hK hall
          replace hK : ∀ v w', v = .pointer (some ⟨bO, 5, none⟩) → Below W2.heap.size W2 w' → K (a9.put (some 24) v) w' := hK
          have hb := hR rfl
          have d23 : a9.tmps.getD 23 undef = .pointer (some ⟨bO, 0, none⟩) := ((hdep ⟨8, .data⟩ (by simp) rfl (by decide)).2 rfl).2 rfl
          clear hdep hk hm hR hall hb
          go_simp
          exact hK _ _ rfl (Below.refl _ _)
      · as_aux_lemma =>
          intro a9 W2 K hR hm hdep hk hK hall
          replace hK : ∀ v w', v = .int .i64 t.mx → Below W2.heap.size W2 w' → K (a9.put (some 25) v) w' := hK
          have hb := hR rfl
          have d24 : a9.tmps.getD 24 undef = .pointer (some ⟨bO, 5, none⟩) := ((hdep ⟨9, .data⟩ (by simp) rfl (by decide)).2 rfl).2 rfl
          have t5 := (hb.cell (p := ⟨bO, 5, none⟩) zA).trans a5
          clear hdep hk hm hR hall hb
          go_simp
          exact hK _ _ rfl (Below.refl _ _)
      · as_aux_lemma =>
          intro a9 W2 K hR hm hdep hk hK hall
          replace hK : ∀ v w', v = .agg #[.bool y.has, .int .i64 y.v.r, .int .i64 y.v.c, .int .i64 y.v.b, .int .i64 y.v.p, .int .i64 y.age] → Below W2.heap.size W2 w' → K (a9.put (some 26) v) w' := hK
          have hb := hR rfl
          have d21 : a9.tmps.getD 21 undef = .agg #[.bool x.has, .int .i64 x.v.r, .int .i64 x.v.c, .int .i64 x.v.b, .int .i64 x.v.p, .int .i64 x.age] := ((hdep ⟨6, .data⟩ (by simp) rfl (by decide)).2 rfl).2 rfl
          have d25 : a9.tmps.getD 25 undef = .int .i64 t.mx := ((hdep ⟨10, .data⟩ (by simp) rfl (by decide)).2 rfl).2 rfl
          have hcall := Lib.hid (cO.out W2)
          clear hdep hk hm hR hall hb
          clear cO
          have q21 : a9.tmps[21]?.getD undef = .agg #[.bool x.has, .int .i64 x.v.r, .int .i64 x.v.c, .int .i64 x.v.b, .int .i64 x.v.p, .int .i64 x.age] := by simpa [Array.getD_eq_getD_getElem?] using d21
          clear d21
          have q25 : a9.tmps[25]?.getD undef = .int .i64 t.mx := by simpa [Array.getD_eq_getD_getElem?] using d25
          clear d25
          go_simp
          refine hcall.out.mono ?_
          rintro e w9 ⟨rfl, r2⟩
          exact hK _ _ rfl r2
      · as_aux_lemma =>
          intro a9 W2 K hR hm hdep hk hK hall
          replace hK : ∀ v w', v = .pointer (some ⟨gI, k * 6, none⟩) → Below W2.heap.size W2 w' → K (a9.put (some 27) v) w' := hK
          have hb := hR rfl
          have d19 : a9.tmps.getD 19 undef = .slice (some ⟨gI, 0, none⟩) t.self.infos.length t.self.infos.length := ((hdep ⟨4, .data⟩ (by simp) rfl (by decide)).2 rfl).2 rfl
          have d20 : a9.tmps.getD 20 undef = .int .i64 k := ((hdep ⟨5, .data⟩ (by simp) rfl (by decide)).2 rfl).2 rfl
          clear hdep hk hm hR hall hb
          go_simp
          exact hK _ _ rfl (Below.refl _ _)
      · intro a9 W2 K hR hm hdep hk hK hall
        replace hK : ∀ w', (∀ a', Go.Proofs.Ytidoaccidmmalaa.MacP.Ended _ _ _ _ a9 a' → _) → K a9 w' := hK
        obtain ⟨hsp, hn, hdf⟩ := hall rfl
        have hb := hR rfl
        have t0 := (hb.cell (p := ⟨gI, k * 6, none⟩) zJ).trans m0
        have u0 := (hb.frozen (p := ⟨gI, k * 6, none⟩) zJ).trans g0
        have t1 := (hb.cell (p := ⟨gI, k * 6 + 1, none⟩) zJ).trans m1
        have u1 := (hb.frozen (p := ⟨gI, k * 6 + 1, none⟩) zJ).trans g1
        have t2 := (hb.cell (p := ⟨gI, k * 6 + 2, none⟩) zJ).trans m2
        have u2 := (hb.frozen (p := ⟨gI, k * 6 + 2, none⟩) zJ).trans g2
        have t3 := (hb.cell (p := ⟨gI, k * 6 + 3, none⟩) zJ).trans m3
        have u3 := (hb.frozen (p := ⟨gI, k * 6 + 3, none⟩) zJ).trans g3
        have t4 := (hb.cell (p := ⟨gI, k * 6 + 4, none⟩) zJ).trans m4
        have u4 := (hb.frozen (p := ⟨gI, k * 6 + 4, none⟩) zJ).trans g4
        have t5 := (hb.cell (p := ⟨gI, k * 6 + 5, none⟩) zJ).trans m5
        have u5 := (hb.frozen (p := ⟨gI, k * 6 + 5, none⟩) zJ).trans g5
        have h26 : a9.tmps.getD 26 undef = .agg #[.bool y.has, .int .i64 y.v.r, .int .i64 y.v.c, .int .i64 y.v.b, .int .i64 y.v.p, .int .i64 y.age] := hsp 11 (by decide) rfl
        have h27 : a9.tmps.getD 27 undef = .pointer (some ⟨gI, k * 6, none⟩) := hsp 12 (by decide) rfl
        obtain ⟨w9, hwS⟩ : ∃ W, W = ((((((W2.setCell ⟨gI, k * 6, none⟩ (.bool y.has)).setCell ⟨gI, k * 6 + 1, none⟩ (.int .i64 y.v.r)).setCell ⟨gI, k * 6 + 2, none⟩ (.int .i64 y.v.c)).setCell ⟨gI, k * 6 + 3, none⟩ (.int .i64 y.v.b)).setCell ⟨gI, k * 6 + 4, none⟩ (.int .i64 y.v.p)).setCell ⟨gI, k * 6 + 5, none⟩ (.int .i64 y.age)) := ⟨_, rfl⟩
        have hKK := Lib.hid (hK w9)
        have H9 := Lib.hid (show OwnT w9 B bO (t.ag (k + 1)) gC gU gI gS by rw [hwS, ← hag.out]; exact (Ha.out.below hb).setN hpl.out y)
        have B9 := Lib.hid (show Below B W w9 by rw [hwS]; exact Ba.out.trans (grown_trans6 hb hsa.out Ha.out.b.ln))
        clear hK hsp hR hall hm hdep hb
        replace hn := Lib.hid hn
        replace hk := Lib.hid hk
        have q26 : a9.tmps[26]?.getD undef = .agg #[.bool y.has, .int .i64 y.v.r, .int .i64 y.v.c, .int .i64 y.v.b, .int .i64 y.v.p, .int .i64 y.age] := by simpa [Array.getD_eq_getD_getElem?] using h26
        clear h26
        have q27 : a9.tmps[27]?.getD undef = .pointer (some ⟨gI, k * 6, none⟩) := by simpa [Array.getD_eq_getD_getElem?] using h27
        clear h27
        go_simp
        rw [← hwS]
        refine hKK.out ?_
        rintro am ⟨h1', h2', h3, h4⟩
        have hn2 := h1'.trans hn.out
        have hdf2 := h2'.trans hdf
        replace hk := hk.out
        clear hwS hn hdf h1' h2' q26 q27
        have s0 : am.tmps.getD 0 undef = .pointer (some ⟨bO, 0, none⟩) := (h3 0 (by decide +revert)).trans (hk 0 (by kernel_rfl))
        have s1 : am.tmps.getD 1 undef = undef := (h3 1 (by decide +revert)).trans (hk 1 (by kernel_rfl))
        have s2 : am.tmps.getD 2 undef = .int .i64 k := (h3 2 (by decide +revert)).trans (hk 2 (by kernel_rfl))
        have s3 : am.tmps.getD 3 undef = .pointer (some ⟨bX, 0, none⟩) := (h3 3 (by decide +revert)).trans (hk 3 (by kernel_rfl))
        have s4 : am.tmps.getD 4 undef = .pointer (some ⟨bO, 0, none⟩) := (h3 4 (by decide +revert)).trans (hk 4 (by kernel_rfl))
        have s5 : am.tmps.getD 5 undef = .pointer (some ⟨bO, 0, none⟩) := (h3 5 (by decide +revert)).trans (hk 5 (by kernel_rfl))
        have s6 : am.tmps.getD 6 undef = .pointer (some ⟨bO, 0, none⟩) := (h3 6 (by decide +revert)).trans (hk 6 (by kernel_rfl))
        have s7 : am.tmps.getD 7 undef = .pointer (some ⟨bO, 3, none⟩) := (h3 7 (by decide +revert)).trans (hk 7 (by kernel_rfl))
        have s8 : am.tmps.getD 8 undef = .slice (some ⟨gI, 0, none⟩) t.self.infos.length t.self.infos.length := (h3 8 (by decide +revert)).trans (hk 8 (by kernel_rfl))
        have s9 : am.tmps.getD 9 undef = .int .i64 t.self.infos.length := (h3 9 (by decide +revert)).trans (hk 9 (by kernel_rfl))
        have s10 : am.tmps.getD 10 undef = .int .i64 k := (h3 10 (by decide +revert)).trans (hk 10 (by kernel_rfl))
        clear hk hKK h3 h4
        obtain ⟨tm, df⟩ := am
        have e := arr_out tm 29 hn2
        replace e : tm = #[tm.getD 0 undef, tm.getD 1 undef, tm.getD 2 undef, tm.getD 3 undef, tm.getD 4 undef, tm.getD 5 undef, tm.getD 6 undef, tm.getD 7 undef, tm.getD 8 undef, tm.getD 9 undef, tm.getD 10 undef, tm.getD 11 undef, tm.getD 12 undef, tm.getD 13 undef, tm.getD 14 undef, tm.getD 15 undef, tm.getD 16 undef, tm.getD 17 undef, tm.getD 18 undef, tm.getD 19 undef, tm.getD 20 undef, tm.getD 21 undef, tm.getD 22 undef, tm.getD 23 undef, tm.getD 24 undef, tm.getD 25 undef, tm.getD 26 undef, tm.getD 27 undef, tm.getD 28 undef] := e
        simp only at s0 s1 s2 s3 s4 s5 s6 s7 s8 s9 s10 hdf2
        rw [s0, s1, s2, s3, s4, s5, s6, s7, s8, s9, s10] at e
        subst hdf2
        clear s0 s1 s2 s3 s4 s5 s6 s7 s8 s9 s10 hn2
        generalize tm.getD 11 undef = u11 at e
        generalize tm.getD 12 undef = u12 at e
        generalize tm.getD 13 undef = u13 at e
        generalize tm.getD 14 undef = u14 at e
        generalize tm.getD 15 undef = u15 at e
        generalize tm.getD 16 undef = u16 at e
        generalize tm.getD 17 undef = u17 at e
        generalize tm.getD 18 undef = u18 at e
        generalize tm.getD 19 undef = u19 at e
        generalize tm.getD 20 undef = u20 at e
        generalize tm.getD 21 undef = u21 at e
        generalize tm.getD 22 undef = u22 at e
        generalize tm.getD 23 undef = u23 at e
        generalize tm.getD 24 undef = u24 at e
        generalize tm.getD 25 undef = u25 at e
        generalize tm.getD 26 undef = u26 at e
        generalize tm.getD 27 undef = u27 at e
        generalize tm.getD 28 undef = u28 at e
        subst e
        go_wp2_with fail
        go_roundw
        case rel => exact ⟨k + 1, by have := hkk.out; omega, by go_num, H9.out, B9.out⟩
        case measure => simp [intOf]; omega
    · obtain rfl : k = t.self.infos.length := by omega
      rw [ag_all] at H
      have H9 := Lib.hid H
      have B9 := Lib.hid hb9
      clear H hb9
      go_wp2_with fail
      go_end0
      exact ⟨rfl, H9.out, B9.out⟩
theorem tick1_act {w : World} {n : Nat} {t : T} (hok : t.ok = true) : ActB 49 #[] n w t t.aged := fun W B bO gC gU gI gS hb h1 h2 h => tick1_any hok h2 h
end Go.Proofs.Ytidoaccidmmalaa.StpP

/-
  Contracts of stp.Right, check, isTaken.
-/
namespace Go.Proofs.Ytidoaccidmmalaa.StpP
open Go.Proofs.Ytidoaccidmmalaa.MacP (arr_out Wrote wp_region_ends outM)
open Go.RowKit Go.Sort Go.Proofs.Ytidoaccidmmalaa.SliceP Go.Proofs.Ytidoaccidmmalaa.BoxP Go.Proofs.Ytidoaccidmmalaa.VecP Go.Proofs.Ytidoaccidmmalaa.RoleP
open Go.Proofs.Ytidoaccidmmalaa.IntP (RowI SlI OwnI)
open Go.Proofs.Ytidoaccidmmalaa.BoolP (RowB SlB OwnB)
open Go.Proofs.Ytidoaccidmmalaa.PortP (okS roleS tickS sv)
set_option linter.unusedVariables false
set_option maxRecDepth 100000
theorem most_eq {t : T} (h : mostB t.mx = false) : t.headOk = false := by
  cases hh : t.headOk with
  | false => rfl
  | true =>
    have := head_iffT.1 hh
    unfold mostB at h
    simp at h
    omega
theorem code_pk {t : T} {k : Nat} {x : Int × Int} {z ac b1 g : Bool} (hx : t.st k = x) (h1 : okS x.1 x.2 t.dl = b1) (hz : (x.1 == 0) = z) (ha : actI (t.self.role k) = ac) (hg : decide (t.mx ≤ (t.self.info k).age) = g) : t.portOk k = (b1 && ((ac == !z) && !g)) := by
  unfold T.portOk T.act
  rw [hx, h1, ha, hg]
  have : decide (x.1 = 0) = z := by rw [← hz]; simp [BEq.beq]
  rw [this]
set_option maxHeartbeats 16000000 in
theorem o_rightT {t : T} {AC : Option Addr} {cC : Nat} {AU : Option Addr} {cU : Nat} {AI : Option Addr} {cI : Nat} {AS : Option Addr} {cS : Nat} {w : World} (hl : Len t) (hR : TreeR w t AC cC AU cU AI cI AS cS) :
    Calls Try.prog 9 #[tv t AC cC AU cU AI cI AS cS] w fun e w' => e = .returned (.bool t.ok) ∧ Below w.heap.size w w' := by
  obtain ⟨w0, hw0⟩ : ∃ W, W = w.alloc (.cells #[.int .i64 t.self.id, .slice AC t.self.costs.length cC, .slice AU t.self.ups.length cU, .slice AI t.self.infos.length cI, .slice AS t.states.length cS, .int .i64 t.mx, .int .i64 t.dl] 29) := ⟨_, rfl⟩
  have I := Lib.hid (show InT w w0 t AC cC AU cU AI cI AS cS by rw [hw0]; exact .new hR)
  have hl3 : t.self.costs.length ≤ 1000 ∧ t.self.ups.length ≤ 1000 ∧ t.self.infos.length ≤ 1000 := ⟨hl.c, hl.u, hl.n⟩
  have hls := hl.s
  clear hR hl
  have B0 := I.out.b
  have z0 := I.out.x.lt
  obtain ⟨ok, hok⟩ : ∃ ok, t.ok = ok := ⟨_, rfl⟩
  rw [hok]
  have hno : t.headOk = false → ok = false := fun h => by rw [← hok]; unfold T.ok; rw [h]; rfl
  cases hro : t.self.ok with
  | false =>
    have hcall := Lib.hid (o_roles_no hro hl3 I.out.r.self)
    obtain rfl : ok = false := hno (by unfold T.headOk; rw [hro]; rfl)
    replace hok := Lib.hid hok
    replace hro := Lib.hid hro
    clear hno hl3
    go_enter Try.func9, Try.ntmps9
    go_upto_region 1 with fail
    rw [← hw0]
    clear hw0
    have o_I_0 := I.out.c (i := 0) rfl
    have o_I_1 := I.out.c (i := 1) rfl
    have o_I_2 := I.out.c (i := 2) rfl
    have o_I_3 := I.out.c (i := 3) rfl
    have o_I_4 := I.out.c (i := 4) rfl
    have o_I_5 := I.out.c (i := 5) rfl
    have o_I_6 := I.out.c (i := 6) rfl
    go_wp2_with fail
    clear o_I_0 o_I_1 o_I_2 o_I_3 o_I_4 o_I_5 o_I_6
    go_at_call 36
    (with_reducible refine (hcall.out).mono ?_)
    rintro e w1 ⟨AR, cR, rfl, hb1⟩
    have I_w1 := Lib.hid (I.out.below hb1)
    have z0_w1 : w.heap.size < w1.heap.size := Nat.lt_of_lt_of_le z0 hb1.size
    have B_w1 := bt B0 hb1
    clear I z0 B0 hb1
    have hb9 := Lib.hid B_w1
    clear B_w1
    go_wp2_with fail
    go_ret
    exact ⟨rfl, hb9.out⟩
  | true =>
    have hcall := Lib.hid (o_roles_blk hro hl3 I.out.r.self)
    have hle := (head_iff.1 (ok_head hro)).2
    have hlr : t.self.costs.length ≤ 8 := by omega
    have hll : t.self.infos.length = t.self.costs.length := hle.2.2
    replace hno := Lib.hid hno
    replace hll := Lib.hid hll
    clear hl3 hle
    go_enter Try.func9, Try.ntmps9
    go_upto_region 1 with fail
    rw [← hw0]
    clear hw0
    have o_I_0 := I.out.c (i := 0) rfl
    have o_I_1 := I.out.c (i := 1) rfl
    have o_I_2 := I.out.c (i := 2) rfl
    have o_I_3 := I.out.c (i := 3) rfl
    have o_I_4 := I.out.c (i := 4) rfl
    have o_I_5 := I.out.c (i := 5) rfl
    have o_I_6 := I.out.c (i := 6) rfl
    go_wp2_with fail
    clear o_I_0 o_I_1 o_I_2 o_I_3 o_I_4 o_I_5 o_I_6
    go_at_call 36
    (with_reducible refine (hcall.out).mono ?_)
    rintro e w21 ⟨gR, rfl, _, kR, hb21⟩
    have I_w21 := Lib.hid (I.out.below hb21)
    have K_w21 := Lib.hid (kR)
    have z0_w21 : w.heap.size < w21.heap.size := Nat.lt_of_lt_of_le z0 hb21.size
    have B_w21 := bt B0 hb21
    clear I z0 B0 hb21
    clear kR hcall
    by_cases c1 : ((t.states.length : Int) != (t.self.costs.length : Int)) = true
    · have e9 : ok = false := hno.out (by unfold T.headOk; rw [hro]; (simp at c1 ⊢) <;> omega)
      subst e9
      replace hok := Lib.hid hok
      replace hro := Lib.hid hro
      have hb9 := Lib.hid B_w21
      clear B_w21
      have o_I_0 := I_w21.out.c (i := 0) rfl
      have o_I_1 := I_w21.out.c (i := 1) rfl
      have o_I_2 := I_w21.out.c (i := 2) rfl
      have o_I_3 := I_w21.out.c (i := 3) rfl
      have o_I_4 := I_w21.out.c (i := 4) rfl
      have o_I_5 := I_w21.out.c (i := 5) rfl
      have o_I_6 := I_w21.out.c (i := 6) rfl
      go_wp2_with fail
      go_ret
      exact ⟨rfl, hb9.out⟩
    · replace c1 : ((t.states.length : Int) != (t.self.costs.length : Int)) = false := by simpa using c1
      obtain ⟨ms, hms⟩ : ∃ b, mostB t.mx = b := ⟨_, rfl⟩
      have cM := Lib.hid fun W => most_to hms W
      have o_I_0 := I_w21.out.c (i := 0) rfl
      have o_I_1 := I_w21.out.c (i := 1) rfl
      have o_I_2 := I_w21.out.c (i := 2) rfl
      have o_I_3 := I_w21.out.c (i := 3) rfl
      have o_I_4 := I_w21.out.c (i := 4) rfl
      have o_I_5 := I_w21.out.c (i := 5) rfl
      have o_I_6 := I_w21.out.c (i := 6) rfl
      go_wp2_with fail
      clear o_I_0 o_I_1 o_I_2 o_I_3 o_I_4 o_I_5 o_I_6
      go_at_call 25
      (with_reducible refine (cM.out _).mono ?_)
      rintro e w22 ⟨rfl, hb22⟩
      have I_w22 := Lib.hid (I_w21.out.below hb22)
      have K_w22 := Lib.hid (K_w21.out.below hb22)
      have z0_w22 : w.heap.size < w22.heap.size := Nat.lt_of_lt_of_le z0_w21 hb22.size
      have B_w22 := bt B_w21 hb22
      clear I_w21 K_w21 z0_w21 B_w21 hb22
      clear cM
      cases ms with
      | false =>
        have e9 : ok = false := hno.out (most_eq hms)
        subst e9
        replace hok := Lib.hid hok
        replace hro := Lib.hid hro
        replace hms := Lib.hid hms
        have hb9 := Lib.hid B_w22
        clear B_w22
        go_wp2_with fail
        go_ret
        exact ⟨rfl, hb9.out⟩
      | true =>
        have hsc : t.states.length = t.self.costs.length := by have h := c1; simp at h; omega
        have hhd := Lib.hid (show t.headOk = true by
          unfold mostB at hms
          simp at hms
          exact head_iffT.2 ⟨hro, hsc, by omega, by omega⟩)
        replace hsc := Lib.hid hsc
        replace hro := Lib.hid hro
        replace hms := Lib.hid hms
        replace hok := Lib.hid hok
        clear hno
        have o_I_0 := I_w22.out.c (i := 0) rfl
        have o_I_1 := I_w22.out.c (i := 1) rfl
        have o_I_2 := I_w22.out.c (i := 2) rfl
        have o_I_3 := I_w22.out.c (i := 3) rfl
        have o_I_4 := I_w22.out.c (i := 4) rfl
        have o_I_5 := I_w22.out.c (i := 5) rfl
        have o_I_6 := I_w22.out.c (i := 6) rfl
        go_wp2_with fail
        clear c1
        clear o_I_0 o_I_1 o_I_2 o_I_3 o_I_4 o_I_5 o_I_6
        go_loopw [33] (fun i wr => ∃ k : Nat, k ≤ t.states.length ∧ i = .int .i64 k ∧ InT w wr t AC cC AU cU AI cI AS cS ∧ Blk wr gR 3 (IntP.cI t.self.roles) ∧ (List.range k).all t.portOk = true) (fun i _ => t.states.length - (intOf i).toNat)
        case atStart => exact ⟨0, by omega, rfl, I_w22.out, K_w22.out, rfl⟩
        case round =>
          clear I_w22 K_w22 B_w22 z0_w22
          obtain ⟨k, hk, rfl, I, K, hall⟩ := hrel
          by_cases hkn : k < t.states.length
          · obtain ⟨bS, oS, hAS, hbS, q0, q1⟩ := SlP.at_ I.r.sts.sl (st_at (t := t) (p := k) hkn)
            subst hAS
            have hkc := Lib.hid (show k < t.self.costs.length by rw [← hsc.out]; exact hkn)
            have hki : k < t.self.infos.length := by rw [hll.out]; exact hkc.out
            have hki2 : (k : Int) < (t.self.infos.length : Int) := by omega
            have hkl : (k : Int) < (t.states.length : Int) := by omega
            have hkc2 : (k : Int) < (t.self.costs.length : Int) := by have := hkc.out; omega
            have hnp : t.portOk k = false → ok = false := fun h => by
              rw [← hok.out]
              unfold T.ok
              rw [Bool.and_eq_false_iff]
              refine .inr ?_
              rw [List.all_eq_false]
              exact ⟨k, List.mem_range.2 hkn, by rw [h]; simp⟩
            have hyp : t.portOk k = true → (List.range (k + 1)).all t.portOk = true := fun h => by rw [List.range_succ, List.all_append, hall]; simp [h]
            obtain ⟨x, hx⟩ : ∃ x, t.st k = x := ⟨_, rfl⟩
            rw [hx] at q0 q1
            obtain ⟨b1, hb1⟩ : ∃ b, okS x.1 x.2 t.dl = b := ⟨_, rfl⟩
            obtain ⟨rl, hrl⟩ : ∃ r, t.self.role k = r := ⟨_, rfl⟩
            obtain ⟨ac, hac⟩ : ∃ r, actI rl = r := ⟨_, rfl⟩
            obtain ⟨z, hz⟩ : ∃ r, (x.1 == 0) = r := ⟨_, rfl⟩
            obtain ⟨g, hg⟩ : ∃ r, decide (t.mx ≤ (t.self.info k).age) = r := ⟨_, rfl⟩
            have hpk := code_pk (ac := ac) hx hb1 hz (by rw [hrl]; exact hac) hg
            rw [hpk] at hnp hyp
            have cP := Lib.hid fun (W : World) => PortP.p_right_to (w := W) hb1
            have cA := Lib.hid fun (W : World) => oact_to hac W
            have r9 := role_row K hkc.out
            rw [hrl] at r9
            have hgl := K.lt
            replace hb1 := Lib.hid hb1
            replace hrl := Lib.hid hrl
            replace hac := Lib.hid hac
            replace hx := Lib.hid hx
            replace hnp := Lib.hid hnp
            replace hyp := Lib.hid hyp
            replace hpk := Lib.hid hpk
            clear hall
            have z0 := I.x.lt
            have B9 := I.b
            replace I := Lib.hid I
            replace K := Lib.hid K
            go_upto_region 7 with fail
            obtain ⟨w1, hw1⟩ : ∃ W, W = wr.alloc (.cells #[.int .i64 x.1, .int .i64 x.2] 80) := ⟨_, rfl⟩
            have bw1 : Below wr.heap.size wr w1 := by rw [hw1]; exact (Below.refl _ _).alloc (Nat.le_refl _) _
            have Xw1 : Bx w1 wr.heap.size 80 #[.int .i64 x.1, .int .i64 x.2] := by rw [hw1]; exact Bx.new _ _ _ rfl
            rw [← hw1]
            clear hw1
            have I_w1 := Lib.hid (I.out.below bw1)
            have K_w1 := Lib.hid (K.out.below bw1)
            have N_w1 := Lib.hid (Xw1)
            have z0_w1 : w.heap.size < w1.heap.size := Nat.lt_of_lt_of_le z0 bw1.size
            have B_w1 := bt B9 bw1
            clear I K z0 B9 bw1
            have z1_w1 : wr.heap.size < w1.heap.size := Xw1.lt
            clear Xw1
            clear q0 q1 hbS r9 hgl
            have o_I_0 := I_w1.out.c (i := 0) rfl
            have o_I_1 := I_w1.out.c (i := 1) rfl
            have o_I_2 := I_w1.out.c (i := 2) rfl
            have o_I_3 := I_w1.out.c (i := 3) rfl
            have o_I_4 := I_w1.out.c (i := 4) rfl
            have o_I_5 := I_w1.out.c (i := 5) rfl
            have o_I_6 := I_w1.out.c (i := 6) rfl
            have o_N_0 := N_w1.out.c (i := 0) rfl
            have o_N_1 := N_w1.out.c (i := 1) rfl
            go_wp2_with fail
            clear o_I_0 o_I_1 o_I_2 o_I_3 o_I_4 o_I_5 o_I_6 o_N_0 o_N_1
            go_at_call 37
            (with_reducible refine (cP.out _).mono ?_)
            rintro e w2 ⟨rfl, hb2⟩
            have I_w2 := Lib.hid (I_w1.out.below hb2)
            have K_w2 := Lib.hid (K_w1.out.below hb2)
            have N_w2 := Lib.hid (N_w1.out.below hb2)
            have z0_w2 : w.heap.size < w2.heap.size := Nat.lt_of_lt_of_le z0_w1 hb2.size
            have z1_w2 : wr.heap.size < w2.heap.size := Nat.lt_of_lt_of_le z1_w1 hb2.size
            have B_w2 := bt B_w1 hb2
            clear I_w1 K_w1 N_w1 z0_w1 z1_w1 B_w1 hb2
            clear cP
            cases b1 with
            | false =>
              obtain rfl : ok = false := hnp.out rfl
              have hb9 := Lib.hid B_w2
              clear B_w2
              go_wp2_with fail
              go_ret
              exact ⟨rfl, hb9.out⟩
            | true =>
              have r9 := role_row K_w2.out hkc.out
              rw [hrl.out] at r9
              have hgl := K_w2.out.lt
              go_wp2_with fail
              go_at_call 38
              (with_reducible refine (cA.out _).mono ?_)
              rintro e w3 ⟨rfl, hb3⟩
              have I_w3 := Lib.hid (I_w2.out.below hb3)
              have K_w3 := Lib.hid (K_w2.out.below hb3)
              have N_w3 := Lib.hid (N_w2.out.below hb3)
              have z0_w3 : w.heap.size < w3.heap.size := Nat.lt_of_lt_of_le z0_w2 hb3.size
              have z1_w3 : wr.heap.size < w3.heap.size := Nat.lt_of_lt_of_le z1_w2 hb3.size
              have B_w3 := bt B_w2 hb3
              clear I_w2 K_w2 N_w2 z0_w2 z1_w2 B_w2 hb3
              clear cA r9 hgl
              cases z <;> cases ac
              · obtain rfl : ok = false := hnp.out rfl
                have hb9 := Lib.hid B_w3
                clear B_w3
                go_wp2_with fail
                go_ret
                exact ⟨rfl, hb9.out⟩
              · obtain ⟨bI, oI, hAI, hbI, p0, p1, p2, p3, p4, p5⟩ := SlN.at_ I_w3.out.r.self.infos.sl (info_at (s := t.self) (p := k) hki)
                subst hAI
                obtain ⟨y, hy⟩ : ∃ y, t.self.info k = y := ⟨_, rfl⟩
                rw [hy] at p5 hg
                replace hy := Lib.hid hy
                clear p0 p1 p2 p3 p4
                go_upto_region 10 with fail
                have J5 := cell_regrown p5
                clear p5 hbI
                cases g
                · have K_I_0 := cell_regrown (I_w3.out.c (i := 0) rfl)
                  have K_I_1 := cell_regrown (I_w3.out.c (i := 1) rfl)
                  have K_I_2 := cell_regrown (I_w3.out.c (i := 2) rfl)
                  have K_I_3 := cell_regrown (I_w3.out.c (i := 3) rfl)
                  have K_I_4 := cell_regrown (I_w3.out.c (i := 4) rfl)
                  have K_I_5 := cell_regrown (I_w3.out.c (i := 5) rfl)
                  have K_I_6 := cell_regrown (I_w3.out.c (i := 6) rfl)
                  refine wp_region_quiet_below (by kernel_rfl) (by kernel_rfl) ?_
                  repeat (first | go_big_quiet_step (fail) | quiet_step (fail))
                  refine wpQuiet_nil ?_
                  intro _ hw'
                  obtain ⟨⟨dq, osq⟩, hw''⟩ := hw'
                  subst hw''
                  have hqw14 := below_regrown w3 dq osq
                  clear K_I_0 K_I_1 K_I_2 K_I_3 K_I_4 K_I_5 K_I_6
                  generalize Go.Sort.grow (redrawn w3 dq) osq = w14 at *
                  have I_w14 := Lib.hid (I_w3.out.below hqw14)
                  have K_w14 := Lib.hid (K_w3.out.below hqw14)
                  have N_w14 := Lib.hid (N_w3.out.below hqw14)
                  have z0_w14 : w.heap.size < w14.heap.size := Nat.lt_of_lt_of_le z0_w3 hqw14.size
                  have z1_w14 : wr.heap.size < w14.heap.size := Nat.lt_of_lt_of_le z1_w3 hqw14.size
                  have B_w14 := bt B_w3 hqw14
                  clear I_w3 K_w3 N_w3 z0_w3 z1_w3 B_w3 hqw14
                  clear J5
                  go_wp2_with fail
                  go_roundw
                  case rel => exact ⟨k + 1, by omega, by go_num, I_w14.out, K_w14.out, hyp.out rfl⟩
                  case measure => simp [intOf]; omega
                · have K_I_0 := cell_regrown (I_w3.out.c (i := 0) rfl)
                  have K_I_1 := cell_regrown (I_w3.out.c (i := 1) rfl)
                  have K_I_2 := cell_regrown (I_w3.out.c (i := 2) rfl)
                  have K_I_3 := cell_regrown (I_w3.out.c (i := 3) rfl)
                  have K_I_4 := cell_regrown (I_w3.out.c (i := 4) rfl)
                  have K_I_5 := cell_regrown (I_w3.out.c (i := 5) rfl)
                  have K_I_6 := cell_regrown (I_w3.out.c (i := 6) rfl)
                  refine wp_region_quiet_below (by kernel_rfl) (by kernel_rfl) ?_
                  repeat (first | go_big_quiet_step (fail) | quiet_step (fail))
                  refine wpQuiet_nil ?_
                  intro _ hw'
                  obtain ⟨⟨dq, osq⟩, hw''⟩ := hw'
                  subst hw''
                  have hqw34 := below_regrown w3 dq osq
                  clear K_I_0 K_I_1 K_I_2 K_I_3 K_I_4 K_I_5 K_I_6
                  generalize Go.Sort.grow (redrawn w3 dq) osq = w34 at *
                  have I_w34 := Lib.hid (I_w3.out.below hqw34)
                  have K_w34 := Lib.hid (K_w3.out.below hqw34)
                  have N_w34 := Lib.hid (N_w3.out.below hqw34)
                  have z0_w34 : w.heap.size < w34.heap.size := Nat.lt_of_lt_of_le z0_w3 hqw34.size
                  have z1_w34 : wr.heap.size < w34.heap.size := Nat.lt_of_lt_of_le z1_w3 hqw34.size
                  have B_w34 := bt B_w3 hqw34
                  clear I_w3 K_w3 N_w3 z0_w3 z1_w3 B_w3 hqw34
                  clear J5
                  obtain rfl : ok = false := hnp.out rfl
                  have hb9 := Lib.hid B_w34
                  clear B_w34
                  go_wp2_with fail
                  go_ret
                  exact ⟨rfl, hb9.out⟩
              · obtain ⟨bI, oI, hAI, hbI, p0, p1, p2, p3, p4, p5⟩ := SlN.at_ I_w3.out.r.self.infos.sl (info_at (s := t.self) (p := k) hki)
                subst hAI
                obtain ⟨y, hy⟩ : ∃ y, t.self.info k = y := ⟨_, rfl⟩
                rw [hy] at p5 hg
                replace hy := Lib.hid hy
                clear p0 p1 p2 p3 p4
                go_upto_region 10 with fail
                have J5 := cell_regrown p5
                clear p5 hbI
                cases g
                · have K_I_0 := cell_regrown (I_w3.out.c (i := 0) rfl)
                  have K_I_1 := cell_regrown (I_w3.out.c (i := 1) rfl)
                  have K_I_2 := cell_regrown (I_w3.out.c (i := 2) rfl)
                  have K_I_3 := cell_regrown (I_w3.out.c (i := 3) rfl)
                  have K_I_4 := cell_regrown (I_w3.out.c (i := 4) rfl)
                  have K_I_5 := cell_regrown (I_w3.out.c (i := 5) rfl)
                  have K_I_6 := cell_regrown (I_w3.out.c (i := 6) rfl)
                  refine wp_region_quiet_below (by kernel_rfl) (by kernel_rfl) ?_
                  repeat (first | go_big_quiet_step (fail) | quiet_step (fail))
                  refine wpQuiet_nil ?_
                  intro _ hw'
                  obtain ⟨⟨dq, osq⟩, hw''⟩ := hw'
                  subst hw''
                  have hqw14 := below_regrown w3 dq osq
                  clear K_I_0 K_I_1 K_I_2 K_I_3 K_I_4 K_I_5 K_I_6
                  generalize Go.Sort.grow (redrawn w3 dq) osq = w14 at *
                  have I_w14 := Lib.hid (I_w3.out.below hqw14)
                  have K_w14 := Lib.hid (K_w3.out.below hqw14)
                  have N_w14 := Lib.hid (N_w3.out.below hqw14)
                  have z0_w14 : w.heap.size < w14.heap.size := Nat.lt_of_lt_of_le z0_w3 hqw14.size
                  have z1_w14 : wr.heap.size < w14.heap.size := Nat.lt_of_lt_of_le z1_w3 hqw14.size
                  have B_w14 := bt B_w3 hqw14
                  clear I_w3 K_w3 N_w3 z0_w3 z1_w3 B_w3 hqw14
                  clear J5
                  go_wp2_with fail
                  go_roundw
                  case rel => exact ⟨k + 1, by omega, by go_num, I_w14.out, K_w14.out, hyp.out rfl⟩
                  case measure => simp [intOf]; omega
                · have K_I_0 := cell_regrown (I_w3.out.c (i := 0) rfl)
                  have K_I_1 := cell_regrown (I_w3.out.c (i := 1) rfl)
                  have K_I_2 := cell_regrown (I_w3.out.c (i := 2) rfl)
                  have K_I_3 := cell_regrown (I_w3.out.c (i := 3) rfl)
                  have K_I_4 := cell_regrown (I_w3.out.c (i := 4) rfl)
                  have K_I_5 := cell_regrown (I_w3.out.c (i := 5) rfl)
                  have K_I_6 := cell_regrown (I_w3.out.c (i := 6) rfl)
                  refine wp_region_quiet_below (by kernel_rfl) (by kernel_rfl) ?_
                  repeat (first | go_big_quiet_step (fail) | quiet_step (fail))
                  refine wpQuiet_nil ?_
                  intro _ hw'
                  obtain ⟨⟨dq, osq⟩, hw''⟩ := hw'
                  subst hw''
                  have hqw34 := below_regrown w3 dq osq
                  clear K_I_0 K_I_1 K_I_2 K_I_3 K_I_4 K_I_5 K_I_6
                  generalize Go.Sort.grow (redrawn w3 dq) osq = w34 at *
                  have I_w34 := Lib.hid (I_w3.out.below hqw34)
                  have K_w34 := Lib.hid (K_w3.out.below hqw34)
                  have N_w34 := Lib.hid (N_w3.out.below hqw34)
                  have z0_w34 : w.heap.size < w34.heap.size := Nat.lt_of_lt_of_le z0_w3 hqw34.size
                  have z1_w34 : wr.heap.size < w34.heap.size := Nat.lt_of_lt_of_le z1_w3 hqw34.size
                  have B_w34 := bt B_w3 hqw34
                  clear I_w3 K_w3 N_w3 z0_w3 z1_w3 B_w3 hqw34
                  clear J5
                  obtain rfl : ok = false := hnp.out rfl
                  have hb9 := Lib.hid B_w34
                  clear B_w34
                  go_wp2_with fail
                  go_ret
                  exact ⟨rfl, hb9.out⟩
              · obtain rfl : ok = false := hnp.out rfl
                have hb9 := Lib.hid B_w3
                clear B_w3
                go_wp2_with fail
                go_ret
                exact ⟨rfl, hb9.out⟩
          · have ek : k = t.states.length := by omega
            subst ek
            have e : ok = true := by rw [← hok.out]; unfold T.ok; rw [hhd.out, hall]; rfl
            subst e
            replace I := Lib.hid I
            clear hall K
            go_wp2_with fail
            go_ret
            exact ⟨rfl, I.out.b⟩
end Go.Proofs.Ytidoaccidmmalaa.StpP

/-
  Contracts of stp.check, isTaken.
-/
namespace Go.Proofs.Ytidoaccidmmalaa.StpP
open Go.Proofs.Ytidoaccidmmalaa.MacP (arr_out Wrote wp_region_ends outM)
open Go.RowKit Go.Sort Go.Proofs.Ytidoaccidmmalaa.SliceP Go.Proofs.Ytidoaccidmmalaa.BoxP Go.Proofs.Ytidoaccidmmalaa.VecP Go.Proofs.Ytidoaccidmmalaa.RoleP
open Go.Proofs.Ytidoaccidmmalaa.IntP (RowI SlI OwnI)
open Go.Proofs.Ytidoaccidmmalaa.BoolP (RowB SlB OwnB)
open Go.Proofs.Ytidoaccidmmalaa.PortP (okS roleS tickS sv)
set_option linter.unusedVariables false
set_option maxRecDepth 100000
/-- What check tells. -/
def chkI (t : T) (p : Int) : Int := if t.ok = true then (if p < 0 ∨ (t.states.length : Int) ≤ p then 3 else 0) else 1
set_option maxHeartbeats 8000000 in
theorem o_check {t : T} {AC : Option Addr} {cC : Nat} {AU : Option Addr} {cU : Nat} {AI : Option Addr} {cI : Nat} {AS : Option Addr} {cS : Nat} {w : World} (p er : Int) (he : chkI t p = er) (hl : Len t) (hR : TreeR w t AC cC AU cU AI cI AS cS) :
    Calls Try.prog 30 #[tv t AC cC AU cU AI cI AS cS, .int .i64 p] w fun e w' => e = .returned (.int .i64 er) ∧ Below w.heap.size w w' := by
  obtain ⟨w0, hw0⟩ : ∃ W, W = w.alloc (.cells #[.int .i64 t.self.id, .slice AC t.self.costs.length cC, .slice AU t.self.ups.length cU, .slice AI t.self.infos.length cI, .slice AS t.states.length cS, .int .i64 t.mx, .int .i64 t.dl] 29) := ⟨_, rfl⟩
  have I := Lib.hid (show InT w w0 t AC cC AU cU AI cI AS cS by rw [hw0]; exact .new hR)
  have hls := hl.s
  have hcall := Lib.hid (o_rightT hl I.out.r)
  clear hR hl
  have B0 := I.out.b
  have z0 := I.out.x.lt
  unfold chkI at he
  cases hok : t.ok with
  | false =>
    rw [hok] at he hcall
    obtain rfl : 1 = er := by simpa using he
    clear he
    replace hok := Lib.hid hok
    go_enter Try.func30, Try.ntmps30
    go_upto_region 1 with fail
    rw [← hw0]
    clear hw0
    have o_I_0 := I.out.c (i := 0) rfl
    have o_I_1 := I.out.c (i := 1) rfl
    have o_I_2 := I.out.c (i := 2) rfl
    have o_I_3 := I.out.c (i := 3) rfl
    have o_I_4 := I.out.c (i := 4) rfl
    have o_I_5 := I.out.c (i := 5) rfl
    have o_I_6 := I.out.c (i := 6) rfl
    go_wp2_with fail
    clear o_I_0 o_I_1 o_I_2 o_I_3 o_I_4 o_I_5 o_I_6
    go_at_call 9
    (with_reducible refine (hcall.out).mono ?_)
    rintro e w1 ⟨rfl, hb1⟩
    have I_w1 := Lib.hid (I.out.below hb1)
    have z0_w1 : w.heap.size < w1.heap.size := Nat.lt_of_lt_of_le z0 hb1.size
    have B_w1 := bt B0 hb1
    clear I z0 B0 hb1
    clear hcall
    have hb9 := Lib.hid B_w1
    clear B_w1
    go_wp2_with fail
    go_ret
    exact ⟨rfl, hb9.out⟩
  | true =>
    rw [hok] at he hcall
    simp only [if_true] at he
    replace hok := Lib.hid hok
    go_enter Try.func30, Try.ntmps30
    go_upto_region 1 with fail
    rw [← hw0]
    clear hw0
    have o_I_0 := I.out.c (i := 0) rfl
    have o_I_1 := I.out.c (i := 1) rfl
    have o_I_2 := I.out.c (i := 2) rfl
    have o_I_3 := I.out.c (i := 3) rfl
    have o_I_4 := I.out.c (i := 4) rfl
    have o_I_5 := I.out.c (i := 5) rfl
    have o_I_6 := I.out.c (i := 6) rfl
    go_wp2_with fail
    clear o_I_0 o_I_1 o_I_2 o_I_3 o_I_4 o_I_5 o_I_6
    go_at_call 9
    (with_reducible refine (hcall.out).mono ?_)
    rintro e w21 ⟨rfl, hb21⟩
    have I_w21 := Lib.hid (I.out.below hb21)
    have z0_w21 : w.heap.size < w21.heap.size := Nat.lt_of_lt_of_le z0 hb21.size
    have B_w21 := bt B0 hb21
    clear I z0 B0 hb21
    clear hcall
    by_cases h1 : p < 0
    · obtain rfl : 3 = er := by rw [← he, if_pos (.inl h1)]
      have hb9 := Lib.hid B_w21
      clear B_w21 he
      go_wp2_with fail
      go_ret
      exact ⟨rfl, hb9.out⟩
    · by_cases h2 : (t.states.length : Int) ≤ p
      · obtain rfl : 3 = er := by rw [← he, if_pos (.inr h2)]
        have hb9 := Lib.hid B_w21
        clear B_w21 he
        have o_I_0 := I_w21.out.c (i := 0) rfl
        have o_I_1 := I_w21.out.c (i := 1) rfl
        have o_I_2 := I_w21.out.c (i := 2) rfl
        have o_I_3 := I_w21.out.c (i := 3) rfl
        have o_I_4 := I_w21.out.c (i := 4) rfl
        have o_I_5 := I_w21.out.c (i := 5) rfl
        have o_I_6 := I_w21.out.c (i := 6) rfl
        go_wp2_with fail
        go_ret
        exact ⟨rfl, hb9.out⟩
      · obtain rfl : 0 = er := by rw [← he, if_neg (by rintro (q | q) <;> contradiction)]
        have hb9 := Lib.hid B_w21
        clear B_w21 he
        have o_I_0 := I_w21.out.c (i := 0) rfl
        have o_I_1 := I_w21.out.c (i := 1) rfl
        have o_I_2 := I_w21.out.c (i := 2) rfl
        have o_I_3 := I_w21.out.c (i := 3) rfl
        have o_I_4 := I_w21.out.c (i := 4) rfl
        have o_I_5 := I_w21.out.c (i := 5) rfl
        have o_I_6 := I_w21.out.c (i := 6) rfl
        go_wp2_with fail
        go_ret
        exact ⟨rfl, hb9.out⟩
theorem better_to' {x y : V} {b : Bool} (hx : x.ok = true) (hy : y.ok = true) (h : x.bet y = b) (w : World) : Calls Try.prog 64 #[vg x, vg y] w fun e w' => e = .returned (.tuple #[.bool b, .int .i64 0]) ∧ Below w.heap.size w w' := by
  have := better_good x.r x.c x.b x.p y.r y.c y.b y.p w hx hy
  unfold V.bet at h
  rwa [h] at this
set_option maxHeartbeats 16000000 in
theorem o_taken {t : T} {AC : Option Addr} {cC : Nat} {AU : Option Addr} {cU : Nat} {AI : Option Addr} {cI : Nat} {AS : Option Addr} {cS : Nat} {w : World} {p : Nat} {q : V} {a : Int} (hok : t.ok = true) (hp : p < t.states.length) (hq : q.ok = true) (h0 : 0 ≤ a) (hR : TreeR w t AC cC AU cU AI cI AS cS) :
    Calls Try.prog 32 #[tv t AC cC AU cU AI cI AS cS, .int .i64 p, cg q a] w fun e w' => e = .returned (.bool (t.hears p q a)) ∧ Below w.heap.size w w' := by
  obtain ⟨w0, hw0⟩ : ∃ W, W = (w.alloc (.cells #[.int .i64 t.self.id, .slice AC t.self.costs.length cC, .slice AU t.self.ups.length cU, .slice AI t.self.infos.length cI, .slice AS t.states.length cS, .int .i64 t.mx, .int .i64 t.dl] 29)).alloc (.cells #[.int .i64 q.r, .int .i64 q.c, .int .i64 q.b, .int .i64 q.p, .int .i64 a] 33) := ⟨_, rfl⟩
  have b0 : Below (w.alloc (.cells #[.int .i64 t.self.id, .slice AC t.self.costs.length cC, .slice AU t.self.ups.length cU, .slice AI t.self.infos.length cI, .slice AS t.states.length cS, .int .i64 t.mx, .int .i64 t.dl] 29)).heap.size (w.alloc (.cells #[.int .i64 t.self.id, .slice AC t.self.costs.length cC, .slice AU t.self.ups.length cU, .slice AI t.self.infos.length cI, .slice AS t.states.length cS, .int .i64 t.mx, .int .i64 t.dl] 29)) w0 := by rw [hw0]; exact (Below.refl _ _).alloc (Nat.le_refl _) _
  have I := Lib.hid (show InT w w0 t AC cC AU cU AI cI AS cS from (InT.new hR).below b0)
  obtain ⟨n1, hn1⟩ : ∃ n1, w.heap.size + 1 = n1 := ⟨_, rfl⟩
  have C := Lib.hid (show Bx w0 n1 33 #[.int .i64 q.r, .int .i64 q.c, .int .i64 q.b, .int .i64 q.p, .int .i64 a] by rw [hw0]; exact Bx.new _ _ _ (by rw [← hn1]; simp))
  have hs := (ok_headT hok).1
  have hh := (head_iff.1 (ok_head hs)).2
  have hst := (ok_headT hok).2.1
  have hpu : p < t.self.ups.length := by omega
  have hpi : p < t.self.infos.length := by omega
  have hu8 : t.self.ups.length ≤ 8 := by omega
  have hi8 : t.self.infos.length ≤ 8 := by omega
  have hpu2 : (p : Int) < (t.self.ups.length : Int) := by omega
  have hpi2 : (p : Int) < (t.self.infos.length : Int) := by omega
  have hin := ok_info hs (p := p) (by omega)
  obtain ⟨R, hR9⟩ : ∃ R, t.hears p q a = R := ⟨_, rfl⟩
  rw [hR9]
  unfold T.hears at hR9
  obtain ⟨y, hy⟩ : ∃ y, t.self.info p = y := ⟨_, rfl⟩
  obtain ⟨up, hup⟩ : ∃ y, t.self.up p = y := ⟨_, rfl⟩
  obtain ⟨g, hg⟩ : ∃ y, decide (t.mx ≤ a) = y := ⟨_, rfl⟩
  rw [hy] at hR9 hin
  rw [hup, hg] at hR9
  have hyo := Lib.hid (fun h => (hin.2.1 h).2)
  have hyz := Lib.hid hin.2.2
  replace hq := Lib.hid hq
  clear hR hok hs hh hst hin b0
  have B0 := I.out.b
  have z0 := I.out.x.lt
  have z1 := C.out.lt
  go_enter Try.func32, Try.ntmps32
  go_upto_region 1 with fail
  rw [← hw0]
  clear hw0 hn1
  obtain ⟨bU, oU, hAU, hbU, u0⟩ := BoolP.SlB.at_ I.out.r.self.ups.sl (up_at (s := t.self) (p := p) hpu)
  subst hAU
  rw [hup] at u0
  have o_I_0 := I.out.c (i := 0) rfl
  have o_I_1 := I.out.c (i := 1) rfl
  have o_I_2 := I.out.c (i := 2) rfl
  have o_I_3 := I.out.c (i := 3) rfl
  have o_I_4 := I.out.c (i := 4) rfl
  have o_I_5 := I.out.c (i := 5) rfl
  have o_I_6 := I.out.c (i := 6) rfl
  have o_C_0 := C.out.c (i := 0) rfl
  have o_C_1 := C.out.c (i := 1) rfl
  have o_C_2 := C.out.c (i := 2) rfl
  have o_C_3 := C.out.c (i := 3) rfl
  have o_C_4 := C.out.c (i := 4) rfl
  cases up with
  | false =>
    obtain rfl : false = R := by rw [← hR9]; rfl
    have hb9 := Lib.hid B0
    clear B0
    go_wp2_with fail
    go_ret
    exact ⟨rfl, hb9.out⟩
  | true =>
    cases g with
    | true =>
      have hg2 : t.mx ≤ a := by simpa using hg
      obtain rfl : false = R := by rw [← hR9]; rfl
      have hb9 := Lib.hid B0
      clear B0
      go_wp2_with fail
      go_ret
      exact ⟨rfl, hb9.out⟩
    | false =>
      have hg2 : ¬ t.mx ≤ a := by simpa using hg
      obtain ⟨bI, oI, hAI, hbI, p0, p1, p2, p3, p4, p5⟩ := SlN.at_ I.out.r.self.infos.sl (info_at (s := t.self) (p := p) hpi)
      subst hAI
      rw [hy] at p0 p1 p2 p3 p4 p5
      go_upto_region 4 with fail
      obtain ⟨w1, hw1⟩ : ∃ W, W = w0.alloc (.cells #[.bool y.has, .int .i64 y.v.r, .int .i64 y.v.c, .int .i64 y.v.b, .int .i64 y.v.p, .int .i64 y.age] 66) := ⟨_, rfl⟩
      have bw1 : Below w0.heap.size w0 w1 := by rw [hw1]; exact (Below.refl _ _).alloc (Nat.le_refl _) _
      have Xw1 : Bx w1 w0.heap.size 66 #[.bool y.has, .int .i64 y.v.r, .int .i64 y.v.c, .int .i64 y.v.b, .int .i64 y.v.p, .int .i64 y.age] := by rw [hw1]; exact Bx.new _ _ _ rfl
      rw [← hw1]
      clear hw1
      have I_w1 := Lib.hid (I.out.below bw1)
      have C_w1 := Lib.hid (C.out.below bw1)
      have N_w1 := Lib.hid (Xw1)
      have z0_w1 : w.heap.size < w1.heap.size := Nat.lt_of_lt_of_le z0 bw1.size
      have z1_w1 : n1 < w1.heap.size := Nat.lt_of_lt_of_le z1 bw1.size
      have B_w1 := bt B0 bw1
      clear I C z0 z1 B0 bw1
      have z2_w1 : w0.heap.size < w1.heap.size := Xw1.lt
      clear Xw1
      clear p0 p1 p2 p3 p4 p5 hbI u0 hbU o_I_0 o_I_1 o_I_2 o_I_3 o_I_4 o_I_5 o_I_6 o_C_0 o_C_1 o_C_2 o_C_3 o_C_4
      cases hh : y.has with
      | false =>
        rw [hh] at hR9
        have o_N_0 := N_w1.out.c (i := 0) rfl
        have o_N_1 := N_w1.out.c (i := 1) rfl
        have o_N_2 := N_w1.out.c (i := 2) rfl
        have o_N_3 := N_w1.out.c (i := 3) rfl
        have o_N_4 := N_w1.out.c (i := 4) rfl
        have o_N_5 := N_w1.out.c (i := 5) rfl
        rw [hh] at o_N_0
        obtain rfl : true = R := by rw [← hR9]; rfl
        have hb9 := Lib.hid B_w1
        clear B_w1
        go_wp2_with fail
        go_ret
        exact ⟨rfl, hb9.out⟩
      | true =>
        rw [hh] at hR9
        have hyv := Lib.hid (hyo.out hh)
        obtain ⟨e1, he1⟩ : ∃ e, decide (y.v.b = q.b) = e := ⟨_, rfl⟩
        obtain ⟨e2, he2⟩ : ∃ e, decide (y.v.p = q.p) = e := ⟨_, rfl⟩
        have h1 : (y.v.b == q.b) = e1 := by rw [← he1]; simp [BEq.beq]
        have h2 : (y.v.p == q.p) = e2 := by rw [← he2]; simp [BEq.beq]
        rw [he1, he2] at hR9
        obtain ⟨bt9, hbt⟩ : ∃ b, q.bet y.v = b := ⟨_, rfl⟩
        rw [hbt] at hR9
        have cB := Lib.hid fun W => better_to' hq.out hyv.out hbt W
        replace he1 := Lib.hid he1
        replace he2 := Lib.hid he2
        replace hbt := Lib.hid hbt
        have o_N_0 := N_w1.out.c (i := 0) rfl
        have o_N_1 := N_w1.out.c (i := 1) rfl
        have o_N_2 := N_w1.out.c (i := 2) rfl
        have o_N_3 := N_w1.out.c (i := 3) rfl
        have o_N_4 := N_w1.out.c (i := 4) rfl
        have o_N_5 := N_w1.out.c (i := 5) rfl
        have o_C_0 := C_w1.out.c (i := 0) rfl
        have o_C_1 := C_w1.out.c (i := 1) rfl
        have o_C_2 := C_w1.out.c (i := 2) rfl
        have o_C_3 := C_w1.out.c (i := 3) rfl
        have o_C_4 := C_w1.out.c (i := 4) rfl
        rw [hh] at o_N_0
        cases e1 <;> cases e2
        · go_wp2_with fail
          go_at_call 64
          (with_reducible refine (cB.out _).mono ?_)
          rintro e w12 ⟨rfl, hb12⟩
          have I_w12 := Lib.hid (I_w1.out.below hb12)
          have C_w12 := Lib.hid (C_w1.out.below hb12)
          have N_w12 := Lib.hid (N_w1.out.below hb12)
          have z0_w12 : w.heap.size < w12.heap.size := Nat.lt_of_lt_of_le z0_w1 hb12.size
          have z1_w12 : n1 < w12.heap.size := Nat.lt_of_lt_of_le z1_w1 hb12.size
          have z2_w12 : w0.heap.size < w12.heap.size := Nat.lt_of_lt_of_le z2_w1 hb12.size
          have B_w12 := bt B_w1 hb12
          clear I_w1 C_w1 N_w1 z0_w1 z1_w1 z2_w1 B_w1 hb12
          obtain rfl : bt9 = R := by rw [← hR9]; cases bt9 <;> rfl
          have hb9 := Lib.hid B_w12
          clear B_w12
          go_wp2_with fail
          go_ret
          exact ⟨rfl, hb9.out⟩
        · go_wp2_with fail
          go_at_call 64
          (with_reducible refine (cB.out _).mono ?_)
          rintro e w22 ⟨rfl, hb22⟩
          have I_w22 := Lib.hid (I_w1.out.below hb22)
          have C_w22 := Lib.hid (C_w1.out.below hb22)
          have N_w22 := Lib.hid (N_w1.out.below hb22)
          have z0_w22 : w.heap.size < w22.heap.size := Nat.lt_of_lt_of_le z0_w1 hb22.size
          have z1_w22 : n1 < w22.heap.size := Nat.lt_of_lt_of_le z1_w1 hb22.size
          have z2_w22 : w0.heap.size < w22.heap.size := Nat.lt_of_lt_of_le z2_w1 hb22.size
          have B_w22 := bt B_w1 hb22
          clear I_w1 C_w1 N_w1 z0_w1 z1_w1 z2_w1 B_w1 hb22
          obtain rfl : bt9 = R := by rw [← hR9]; cases bt9 <;> rfl
          have hb9 := Lib.hid B_w22
          clear B_w22
          go_wp2_with fail
          go_ret
          exact ⟨rfl, hb9.out⟩
        · go_wp2_with fail
          go_at_call 64
          (with_reducible refine (cB.out _).mono ?_)
          rintro e w32 ⟨rfl, hb32⟩
          have I_w32 := Lib.hid (I_w1.out.below hb32)
          have C_w32 := Lib.hid (C_w1.out.below hb32)
          have N_w32 := Lib.hid (N_w1.out.below hb32)
          have z0_w32 : w.heap.size < w32.heap.size := Nat.lt_of_lt_of_le z0_w1 hb32.size
          have z1_w32 : n1 < w32.heap.size := Nat.lt_of_lt_of_le z1_w1 hb32.size
          have z2_w32 : w0.heap.size < w32.heap.size := Nat.lt_of_lt_of_le z2_w1 hb32.size
          have B_w32 := bt B_w1 hb32
          clear I_w1 C_w1 N_w1 z0_w1 z1_w1 z2_w1 B_w1 hb32
          obtain rfl : bt9 = R := by rw [← hR9]; cases bt9 <;> rfl
          have hb9 := Lib.hid B_w32
          clear B_w32
          go_wp2_with fail
          go_ret
          exact ⟨rfl, hb9.out⟩
        · obtain rfl : true = R := by rw [← hR9]; rfl
          have hb9 := Lib.hid B_w1
          clear B_w1
          go_wp2_with fail
          go_ret
          exact ⟨rfl, hb9.out⟩
end Go.Proofs.Ytidoaccidmmalaa.StpP

/-
  Contracts of stp.Hear, stp.Link.
-/
namespace Go.Proofs.Ytidoaccidmmalaa.StpP
open Go.Proofs.Ytidoaccidmmalaa.MacP (arr_out Wrote wp_region_ends outM)
open Go.RowKit Go.Sort Go.Proofs.Ytidoaccidmmalaa.SliceP Go.Proofs.Ytidoaccidmmalaa.BoxP Go.Proofs.Ytidoaccidmmalaa.VecP Go.Proofs.Ytidoaccidmmalaa.RoleP
open Go.Proofs.Ytidoaccidmmalaa.IntP (RowI SlI OwnI)
open Go.Proofs.Ytidoaccidmmalaa.BoolP (RowB SlB OwnB)
open Go.Proofs.Ytidoaccidmmalaa.PortP (okS roleS tickS sv)
set_option linter.unusedVariables false
set_option maxRecDepth 100000
theorem Blks.ret {w W : World} {src : Nat → Prop} {u : T} {gC gU gI gS : Nat} {mk : Value → Value} (h : Blks W w.heap.size u gC gU gI gS) (hb : Below w.heap.size w W) : RetT w src u mk (.returned (mk (tvO u gC gU gI gS))) W := ⟨_, _, _, _, _, _, _, _, rfl, h.tree, hb, fun _ hb _ => h.off hb⟩
theorem ret0 {w W : World} {src : Nat → Prop} {mk : Value → Value} (hb : Below w.heap.size w W) : RetT w src T0 mk (.returned (mk (tv T0 none 0 none 0 none 0 none 0))) W := ⟨_, _, _, _, _, _, _, _, rfl, TreeR.zero W, hb, fun _ _ _ => ⟨fun _ a ha => (by cases ha), fun _ a ha => (by cases ha), fun _ a ha => (by cases ha), fun _ a ha => (by cases ha)⟩⟩
theorem cfg_iff' {v : V} {a : Int} (h : cfgOk v a = true) : v.ok = true ∧ 0 ≤ a ∧ a ≤ 255 := by
  unfold cfgOk at h
  simpa only [Bool.and_eq_true, decide_eq_true_eq] using h
theorem below_up {w w0 W : World} (h : Below w.heap.size w w0) (hb : Below w0.heap.size w0 W) : Below w.heap.size w W := h.trans (hb.mono h.size)
set_option maxHeartbeats 16000000 in
theorem o_hear_bad {t : T} {AC : Option Addr} {cC : Nat} {AU : Option Addr} {cU : Nat} {AI : Option Addr} {cI : Nat} {AS : Option Addr} {cS : Nat} {w : World} {p er : Int} {q : V} {a : Int} (he : chkI t p = er) (h0 : er ≠ 0) (hl : Len t) (hR : TreeR w t AC cC AU cU AI cI AS cS) :
    Calls Try.prog 8 #[tv t AC cC AU cU AI cI AS cS, .int .i64 p, cg q a] w (RetT w (fun b => OffT b t AC AU AI AS) T0 (fun x => .tuple #[x, .bool false, .int .i64 er])) := by
  obtain ⟨w0, hw0⟩ : ∃ W, W = (((w.alloc (.cells #[.int .i64 t.self.id, .slice AC t.self.costs.length cC, .slice AU t.self.ups.length cU, .slice AI t.self.infos.length cI, .slice AS t.states.length cS, .int .i64 t.mx, .int .i64 t.dl] 29)).alloc (.cells #[.int .i64 p] 3)).alloc (.cells #[.int .i64 q.r, .int .i64 q.c, .int .i64 q.b, .int .i64 q.p, .int .i64 a] 33)).alloc (.cells #[.int .i64 0, .slice none 0 0, .slice none 0 0, .slice none 0 0, .slice none 0 0, .int .i64 0, .int .i64 0] 29) := ⟨_, rfl⟩
  obtain ⟨n1, hn1⟩ : ∃ n, w.heap.size + 1 = n := ⟨_, rfl⟩
  obtain ⟨n2, hn2⟩ : ∃ n, n1 + 1 = n := ⟨_, rfl⟩
  obtain ⟨n3, hn3⟩ : ∃ n, n2 + 1 = n := ⟨_, rfl⟩
  have b0 : Below w.heap.size w w0 := by rw [hw0]; exact (((((Below.refl _ _).alloc (Nat.le_refl _) _).alloc (by simp) _).alloc (by simp; omega) _).alloc (by simp; omega) _)
  have X0 : Bx w0 w.heap.size 29 #[.int .i64 t.self.id, .slice AC t.self.costs.length cC, .slice AU t.self.ups.length cU, .slice AI t.self.infos.length cI, .slice AS t.states.length cS, .int .i64 t.mx, .int .i64 t.dl] := by rw [hw0]; exact (((Bx.new _ _ _ rfl).alloc _).alloc _).alloc _
  have Pb := Lib.hid (show Bx w0 n1 3 #[.int .i64 p] by rw [hw0]; exact ((Bx.new _ _ _ (by simp; omega)).alloc _).alloc _)
  have C := Lib.hid (show Bx w0 n2 33 #[.int .i64 q.r, .int .i64 q.c, .int .i64 q.b, .int .i64 q.p, .int .i64 a] by rw [hw0]; exact (Bx.new _ _ _ (by simp; omega)).alloc _)
  have X := Lib.hid (show Bx w0 n3 29 #[.int .i64 0, .slice none 0 0, .slice none 0 0, .slice none 0 0, .slice none 0 0, .int .i64 0, .int .i64 0] by rw [hw0]; exact Bx.new _ _ _ (by simp; omega))
  have I := Lib.hid (show InT w w0 t AC cC AU cU AI cI AS cS from ⟨b0, X0, hR.below b0⟩)
  have hlt := Lib.hid (show w.heap.size ≤ w0.heap.size from b0.size)
  have hge := Lib.hid (show w.heap.size ≤ n3 by omega)
  have hcall := Lib.hid (o_check p er he hl I.out.r)
  have hne : (er != 0) = true := by simpa using h0
  replace h0 := Lib.hid h0
  clear he hl
  have B0 := I.out.b
  have z0 := I.out.x.lt
  have z1 := Pb.out.lt
  have z2 := C.out.lt
  have z3 := X.out.lt
  clear b0 X0 hR
  go_enter Try.func8, Try.ntmps8
  go_upto_region 1 with fail
  rw [← hw0]
  clear hw0 hn1 hn2 hn3
  have o_I_0 := I.out.c (i := 0) rfl
  have o_I_1 := I.out.c (i := 1) rfl
  have o_I_2 := I.out.c (i := 2) rfl
  have o_I_3 := I.out.c (i := 3) rfl
  have o_I_4 := I.out.c (i := 4) rfl
  have o_I_5 := I.out.c (i := 5) rfl
  have o_I_6 := I.out.c (i := 6) rfl
  have o_Pb_0 := Pb.out.c (i := 0) rfl
  go_wp2_with fail
  clear o_I_0 o_I_1 o_I_2 o_I_3 o_I_4 o_I_5 o_I_6 o_Pb_0
  go_at_call 30
  (with_reducible refine (hcall.out).mono ?_)
  rintro e w1 ⟨rfl, hb1⟩
  have I_w1 := Lib.hid (I.out.below hb1)
  have Pb_w1 := Lib.hid (Pb.out.below hb1)
  have C_w1 := Lib.hid (C.out.below hb1)
  have X_w1 := Lib.hid (X.out.below hb1)
  have z0_w1 : w.heap.size < w1.heap.size := Nat.lt_of_lt_of_le z0 hb1.size
  have z1_w1 : n1 < w1.heap.size := Nat.lt_of_lt_of_le z1 hb1.size
  have z2_w1 : n2 < w1.heap.size := Nat.lt_of_lt_of_le z2 hb1.size
  have z3_w1 : n3 < w1.heap.size := Nat.lt_of_lt_of_le z3 hb1.size
  have B_w1 := bt B0 hb1
  clear I Pb C X z0 z1 z2 z3 B0 hb1
  clear hcall
  have o_X_0 := X_w1.out.c (i := 0) rfl
  have o_X_1 := X_w1.out.c (i := 1) rfl
  have o_X_2 := X_w1.out.c (i := 2) rfl
  have o_X_3 := X_w1.out.c (i := 3) rfl
  have o_X_4 := X_w1.out.c (i := 4) rfl
  have o_X_5 := X_w1.out.c (i := 5) rfl
  have o_X_6 := X_w1.out.c (i := 6) rfl
  have p_X_0 := X_w1.out.f 0
  have p_X_1 := X_w1.out.f 1
  have p_X_2 := X_w1.out.f 2
  have p_X_3 := X_w1.out.f 3
  have p_X_4 := X_w1.out.f 4
  have p_X_5 := X_w1.out.f 5
  have p_X_6 := X_w1.out.f 6
  have hzx := X_w1.out.lt
  have hb9 := Lib.hid B_w1
  clear B_w1
  go_wp2_with fail
  refine bodyPost_ret (v := .tuple #[.agg #[.int .i64 0, .slice none 0 0, .slice none 0 0, .slice none 0 0, .slice none 0 0, .int .i64 0, .int .i64 0], .bool false, .int .i64 er]) (by simp [results, Try.results8, go_sem, o_X_0, o_X_1, o_X_2, o_X_3, o_X_4, o_X_5, o_X_6]) rfl ?_
  exact ret0 (mk := fun x => .tuple #[x, .bool false, .int .i64 er]) (set7_bel hb9.out hge.out)
set_option maxHeartbeats 16000000 in
theorem o_hear_arg {t : T} {AC : Option Addr} {cC : Nat} {AU : Option Addr} {cU : Nat} {AI : Option Addr} {cI : Nat} {AS : Option Addr} {cS : Nat} {w : World} {p : Nat} {q : V} {a : Int} (hok : t.ok = true) (hp : p < t.states.length) (hc : cfgOk q a = false) (hl : Len t) (hR : TreeR w t AC cC AU cU AI cI AS cS) :
    Calls Try.prog 8 #[tv t AC cC AU cU AI cI AS cS, .int .i64 (p : Int), cg q a] w (RetT w (fun b => OffT b t AC AU AI AS) T0 (fun x => .tuple #[x, .bool false, .int .i64 1])) := by
  obtain ⟨w0, hw0⟩ : ∃ W, W = (((w.alloc (.cells #[.int .i64 t.self.id, .slice AC t.self.costs.length cC, .slice AU t.self.ups.length cU, .slice AI t.self.infos.length cI, .slice AS t.states.length cS, .int .i64 t.mx, .int .i64 t.dl] 29)).alloc (.cells #[.int .i64 (p : Int)] 3)).alloc (.cells #[.int .i64 q.r, .int .i64 q.c, .int .i64 q.b, .int .i64 q.p, .int .i64 a] 33)).alloc (.cells #[.int .i64 0, .slice none 0 0, .slice none 0 0, .slice none 0 0, .slice none 0 0, .int .i64 0, .int .i64 0] 29) := ⟨_, rfl⟩
  obtain ⟨n1, hn1⟩ : ∃ n, w.heap.size + 1 = n := ⟨_, rfl⟩
  obtain ⟨n2, hn2⟩ : ∃ n, n1 + 1 = n := ⟨_, rfl⟩
  obtain ⟨n3, hn3⟩ : ∃ n, n2 + 1 = n := ⟨_, rfl⟩
  have b0 : Below w.heap.size w w0 := by rw [hw0]; exact (((((Below.refl _ _).alloc (Nat.le_refl _) _).alloc (by simp) _).alloc (by simp; omega) _).alloc (by simp; omega) _)
  have X0 : Bx w0 w.heap.size 29 #[.int .i64 t.self.id, .slice AC t.self.costs.length cC, .slice AU t.self.ups.length cU, .slice AI t.self.infos.length cI, .slice AS t.states.length cS, .int .i64 t.mx, .int .i64 t.dl] := by rw [hw0]; exact (((Bx.new _ _ _ rfl).alloc _).alloc _).alloc _
  have Pb := Lib.hid (show Bx w0 n1 3 #[.int .i64 (p : Int)] by rw [hw0]; exact ((Bx.new _ _ _ (by simp; omega)).alloc _).alloc _)
  have C := Lib.hid (show Bx w0 n2 33 #[.int .i64 q.r, .int .i64 q.c, .int .i64 q.b, .int .i64 q.p, .int .i64 a] by rw [hw0]; exact (Bx.new _ _ _ (by simp; omega)).alloc _)
  have X := Lib.hid (show Bx w0 n3 29 #[.int .i64 0, .slice none 0 0, .slice none 0 0, .slice none 0 0, .slice none 0 0, .int .i64 0, .int .i64 0] by rw [hw0]; exact Bx.new _ _ _ (by simp; omega))
  have I := Lib.hid (show InT w w0 t AC cC AU cU AI cI AS cS from ⟨b0, X0, hR.below b0⟩)
  have hlt := Lib.hid (show w.heap.size ≤ w0.heap.size from b0.size)
  have hge := Lib.hid (show w.heap.size ≤ n3 by omega)
  have hcall := Lib.hid (o_check (p : Int) 0 (show chkI t (p : Int) = 0 by unfold chkI; rw [if_pos hok, if_neg (by omega)]) hl I.out.r)
  have cF := Lib.hid fun W => ocfg_to hc W
  clear hl hc hok hp
  have B0 := I.out.b
  have z0 := I.out.x.lt
  have z1 := Pb.out.lt
  have z2 := C.out.lt
  have z3 := X.out.lt
  clear b0 X0 hR
  go_enter Try.func8, Try.ntmps8
  go_upto_region 1 with fail
  rw [← hw0]
  clear hw0 hn1 hn2 hn3
  have o_I_0 := I.out.c (i := 0) rfl
  have o_I_1 := I.out.c (i := 1) rfl
  have o_I_2 := I.out.c (i := 2) rfl
  have o_I_3 := I.out.c (i := 3) rfl
  have o_I_4 := I.out.c (i := 4) rfl
  have o_I_5 := I.out.c (i := 5) rfl
  have o_I_6 := I.out.c (i := 6) rfl
  have o_Pb_0 := Pb.out.c (i := 0) rfl
  go_wp2_with fail
  clear o_I_0 o_I_1 o_I_2 o_I_3 o_I_4 o_I_5 o_I_6 o_Pb_0
  go_at_call 30
  (with_reducible refine (hcall.out).mono ?_)
  rintro e w1 ⟨rfl, hb1⟩
  have I_w1 := Lib.hid (I.out.below hb1)
  have Pb_w1 := Lib.hid (Pb.out.below hb1)
  have C_w1 := Lib.hid (C.out.below hb1)
  have X_w1 := Lib.hid (X.out.below hb1)
  have z0_w1 : w.heap.size < w1.heap.size := Nat.lt_of_lt_of_le z0 hb1.size
  have z1_w1 : n1 < w1.heap.size := Nat.lt_of_lt_of_le z1 hb1.size
  have z2_w1 : n2 < w1.heap.size := Nat.lt_of_lt_of_le z2 hb1.size
  have z3_w1 : n3 < w1.heap.size := Nat.lt_of_lt_of_le z3 hb1.size
  have B_w1 := bt B0 hb1
  clear I Pb C X z0 z1 z2 z3 B0 hb1
  clear hcall
  have o_C_0 := C_w1.out.c (i := 0) rfl
  have o_C_1 := C_w1.out.c (i := 1) rfl
  have o_C_2 := C_w1.out.c (i := 2) rfl
  have o_C_3 := C_w1.out.c (i := 3) rfl
  have o_C_4 := C_w1.out.c (i := 4) rfl
  go_wp2_with fail
  clear o_C_0 o_C_1 o_C_2 o_C_3 o_C_4
  go_at_call 31
  (with_reducible refine (cF.out _).mono ?_)
  rintro e w2 ⟨rfl, hb2⟩
  have I_w2 := Lib.hid (I_w1.out.below hb2)
  have Pb_w2 := Lib.hid (Pb_w1.out.below hb2)
  have C_w2 := Lib.hid (C_w1.out.below hb2)
  have X_w2 := Lib.hid (X_w1.out.below hb2)
  have z0_w2 : w.heap.size < w2.heap.size := Nat.lt_of_lt_of_le z0_w1 hb2.size
  have z1_w2 : n1 < w2.heap.size := Nat.lt_of_lt_of_le z1_w1 hb2.size
  have z2_w2 : n2 < w2.heap.size := Nat.lt_of_lt_of_le z2_w1 hb2.size
  have z3_w2 : n3 < w2.heap.size := Nat.lt_of_lt_of_le z3_w1 hb2.size
  have B_w2 := bt B_w1 hb2
  clear I_w1 Pb_w1 C_w1 X_w1 z0_w1 z1_w1 z2_w1 z3_w1 B_w1 hb2
  clear cF
  have o_X_0 := X_w2.out.c (i := 0) rfl
  have o_X_1 := X_w2.out.c (i := 1) rfl
  have o_X_2 := X_w2.out.c (i := 2) rfl
  have o_X_3 := X_w2.out.c (i := 3) rfl
  have o_X_4 := X_w2.out.c (i := 4) rfl
  have o_X_5 := X_w2.out.c (i := 5) rfl
  have o_X_6 := X_w2.out.c (i := 6) rfl
  have p_X_0 := X_w2.out.f 0
  have p_X_1 := X_w2.out.f 1
  have p_X_2 := X_w2.out.f 2
  have p_X_3 := X_w2.out.f 3
  have p_X_4 := X_w2.out.f 4
  have p_X_5 := X_w2.out.f 5
  have p_X_6 := X_w2.out.f 6
  have hzx := X_w2.out.lt
  have hb9 := Lib.hid B_w2
  clear B_w2
  go_wp2_with fail
  refine bodyPost_ret (v := .tuple #[.agg #[.int .i64 0, .slice none 0 0, .slice none 0 0, .slice none 0 0, .slice none 0 0, .int .i64 0, .int .i64 0], .bool false, .int .i64 1]) (by simp [results, Try.results8, go_sem, o_X_0, o_X_1, o_X_2, o_X_3, o_X_4, o_X_5, o_X_6]) rfl ?_
  exact ret0 (mk := fun x => .tuple #[x, .bool false, .int .i64 1]) (set7_bel hb9.out hge.out)
set_option maxHeartbeats 16000000 in
theorem o_hear_ok {t : T} {AC : Option Addr} {cC : Nat} {AU : Option Addr} {cU : Nat} {AI : Option Addr} {cI : Nat} {AS : Option Addr} {cS : Nat} {w : World} {p : Nat} {q : V} {a : Int} (hok : t.ok = true) (hp : p < t.states.length) (hc : cfgOk q a = true) (hl : Len t) (hR : TreeR w t AC cC AU cU AI cI AS cS) :
    Calls Try.prog 8 #[tv t AC cC AU cU AI cI AS cS, .int .i64 (p : Int), cg q a] w (RetT w (fun b => OffT b t AC AU AI AS) (t.hear p q a) (fun x => .tuple #[x, .bool (t.hears p q a), .int .i64 0])) := by
  obtain ⟨w0, hw0⟩ : ∃ W, W = (((w.alloc (.cells #[.int .i64 t.self.id, .slice AC t.self.costs.length cC, .slice AU t.self.ups.length cU, .slice AI t.self.infos.length cI, .slice AS t.states.length cS, .int .i64 t.mx, .int .i64 t.dl] 29)).alloc (.cells #[.int .i64 (p : Int)] 3)).alloc (.cells #[.int .i64 q.r, .int .i64 q.c, .int .i64 q.b, .int .i64 q.p, .int .i64 a] 33)).alloc (.cells #[.int .i64 0, .slice none 0 0, .slice none 0 0, .slice none 0 0, .slice none 0 0, .int .i64 0, .int .i64 0] 29) := ⟨_, rfl⟩
  obtain ⟨n1, hn1⟩ : ∃ n, w.heap.size + 1 = n := ⟨_, rfl⟩
  obtain ⟨n2, hn2⟩ : ∃ n, n1 + 1 = n := ⟨_, rfl⟩
  obtain ⟨n3, hn3⟩ : ∃ n, n2 + 1 = n := ⟨_, rfl⟩
  have b0 : Below w.heap.size w w0 := by rw [hw0]; exact (((((Below.refl _ _).alloc (Nat.le_refl _) _).alloc (by simp) _).alloc (by simp; omega) _).alloc (by simp; omega) _)
  have X0 : Bx w0 w.heap.size 29 #[.int .i64 t.self.id, .slice AC t.self.costs.length cC, .slice AU t.self.ups.length cU, .slice AI t.self.infos.length cI, .slice AS t.states.length cS, .int .i64 t.mx, .int .i64 t.dl] := by rw [hw0]; exact (((Bx.new _ _ _ rfl).alloc _).alloc _).alloc _
  have Pb := Lib.hid (show Bx w0 n1 3 #[.int .i64 (p : Int)] by rw [hw0]; exact ((Bx.new _ _ _ (by simp; omega)).alloc _).alloc _)
  have C := Lib.hid (show Bx w0 n2 33 #[.int .i64 q.r, .int .i64 q.c, .int .i64 q.b, .int .i64 q.p, .int .i64 a] by rw [hw0]; exact (Bx.new _ _ _ (by simp; omega)).alloc _)
  have X := Lib.hid (show Bx w0 n3 29 #[.int .i64 0, .slice none 0 0, .slice none 0 0, .slice none 0 0, .slice none 0 0, .int .i64 0, .int .i64 0] by rw [hw0]; exact Bx.new _ _ _ (by simp; omega))
  have I := Lib.hid (show InT w w0 t AC cC AU cU AI cI AS cS from ⟨b0, X0, hR.below b0⟩)
  have hlt := Lib.hid (show w.heap.size ≤ w0.heap.size from b0.size)
  have hge := Lib.hid (show w.heap.size ≤ n3 by omega)
  have hcall := Lib.hid (o_check (p : Int) 0 (show chkI t (p : Int) = 0 by unfold chkI; rw [if_pos hok, if_neg (by omega)]) hl I.out.r)
  have cF := Lib.hid fun W => ocfg_to hc W
  obtain ⟨k1, k2, k3, k4⟩ := ok_headT hok
  have e1 := (head_iff.1 (ok_head k1)).2
  have hpi : p < t.self.infos.length := by omega
  have hi8 : t.self.infos.length ≤ 8 := by omega
  have hq : q.ok = true ∧ 0 ≤ a ∧ a ≤ 255 := cfg_iff' hc
  obtain ⟨R, hR9⟩ : ∃ R, t.hears p q a = R := ⟨_, rfl⟩
  have cT := Lib.hid (show ∀ W : World, TreeR W t AC cC AU cU AI cI AS cS → Calls Try.prog 32 #[tv t AC cC AU cU AI cI AS cS, .int .i64 (p : Int), cg q a] W fun e w' => e = .returned (.bool R) ∧ Below W.heap.size W w' from fun W h => by rw [← hR9]; exact o_taken hok hp hq.1 hq.2.1 h)
  have hpre := Lib.hid (show R = true → Pre (t.know p ⟨true, q, a⟩) from fun h => by
    rw [h] at hR9
    unfold T.hears at hR9
    simp only [Bool.and_eq_true, Bool.not_eq_true', decide_eq_false_iff_not] at hR9
    exact know_pre (x := ⟨true, q, a⟩) hok hp (by rw [hR9.1.1]; exact n_ok_mk hq.1 hq.2.1 hq.2.2) (by have := hR9.1.2; show a < t.mx; omega))
  unfold T.hear
  rw [hR9]
  obtain ⟨u, hu⟩ : ∃ u, (if R = true then (t.know p ⟨true, q, a⟩).settle else t) = u := ⟨_, rfl⟩
  rw [hu]
  replace hu := Lib.hid hu
  have hl' := Lib.hid hl
  replace hR9 := Lib.hid hR9
  clear hl hc hok hp hq k1 k2 k3 k4 e1
  have B0 := I.out.b
  have z0 := I.out.x.lt
  have z1 := Pb.out.lt
  have z2 := C.out.lt
  have z3 := X.out.lt
  clear b0 X0 hR
  go_enter Try.func8, Try.ntmps8
  go_upto_region 1 with fail
  rw [← hw0]
  clear hw0 hn1 hn2 hn3
  have o_I_0 := I.out.c (i := 0) rfl
  have o_I_1 := I.out.c (i := 1) rfl
  have o_I_2 := I.out.c (i := 2) rfl
  have o_I_3 := I.out.c (i := 3) rfl
  have o_I_4 := I.out.c (i := 4) rfl
  have o_I_5 := I.out.c (i := 5) rfl
  have o_I_6 := I.out.c (i := 6) rfl
  have o_Pb_0 := Pb.out.c (i := 0) rfl
  go_wp2_with fail
  clear o_I_0 o_I_1 o_I_2 o_I_3 o_I_4 o_I_5 o_I_6 o_Pb_0
  go_at_call 30
  (with_reducible refine (hcall.out).mono ?_)
  rintro e w1 ⟨rfl, hb1⟩
  have I_w1 := Lib.hid (I.out.below hb1)
  have Pb_w1 := Lib.hid (Pb.out.below hb1)
  have C_w1 := Lib.hid (C.out.below hb1)
  have X_w1 := Lib.hid (X.out.below hb1)
  have z0_w1 : w.heap.size < w1.heap.size := Nat.lt_of_lt_of_le z0 hb1.size
  have z1_w1 : n1 < w1.heap.size := Nat.lt_of_lt_of_le z1 hb1.size
  have z2_w1 : n2 < w1.heap.size := Nat.lt_of_lt_of_le z2 hb1.size
  have z3_w1 : n3 < w1.heap.size := Nat.lt_of_lt_of_le z3 hb1.size
  have B_w1 := bt B0 hb1
  clear I Pb C X z0 z1 z2 z3 B0 hb1
  clear hcall
  have o_C_0 := C_w1.out.c (i := 0) rfl
  have o_C_1 := C_w1.out.c (i := 1) rfl
  have o_C_2 := C_w1.out.c (i := 2) rfl
  have o_C_3 := C_w1.out.c (i := 3) rfl
  have o_C_4 := C_w1.out.c (i := 4) rfl
  go_wp2_with fail
  clear o_C_0 o_C_1 o_C_2 o_C_3 o_C_4
  go_at_call 31
  (with_reducible refine (cF.out _).mono ?_)
  rintro e w2 ⟨rfl, hb2⟩
  have I_w2 := Lib.hid (I_w1.out.below hb2)
  have Pb_w2 := Lib.hid (Pb_w1.out.below hb2)
  have C_w2 := Lib.hid (C_w1.out.below hb2)
  have X_w2 := Lib.hid (X_w1.out.below hb2)
  have z0_w2 : w.heap.size < w2.heap.size := Nat.lt_of_lt_of_le z0_w1 hb2.size
  have z1_w2 : n1 < w2.heap.size := Nat.lt_of_lt_of_le z1_w1 hb2.size
  have z2_w2 : n2 < w2.heap.size := Nat.lt_of_lt_of_le z2_w1 hb2.size
  have z3_w2 : n3 < w2.heap.size := Nat.lt_of_lt_of_le z3_w1 hb2.size
  have B_w2 := bt B_w1 hb2
  clear I_w1 Pb_w1 C_w1 X_w1 z0_w1 z1_w1 z2_w1 z3_w1 B_w1 hb2
  clear cF
  have o_I_0 := I_w2.out.c (i := 0) rfl
  have o_I_1 := I_w2.out.c (i := 1) rfl
  have o_I_2 := I_w2.out.c (i := 2) rfl
  have o_I_3 := I_w2.out.c (i := 3) rfl
  have o_I_4 := I_w2.out.c (i := 4) rfl
  have o_I_5 := I_w2.out.c (i := 5) rfl
  have o_I_6 := I_w2.out.c (i := 6) rfl
  have o_Pb_0 := Pb_w2.out.c (i := 0) rfl
  have o_C_0 := C_w2.out.c (i := 0) rfl
  have o_C_1 := C_w2.out.c (i := 1) rfl
  have o_C_2 := C_w2.out.c (i := 2) rfl
  have o_C_3 := C_w2.out.c (i := 3) rfl
  have o_C_4 := C_w2.out.c (i := 4) rfl
  go_wp2_with fail
  clear o_I_0 o_I_1 o_I_2 o_I_3 o_I_4 o_I_5 o_I_6 o_Pb_0 o_C_0 o_C_1 o_C_2 o_C_3 o_C_4
  go_at_call 32
  (with_reducible refine (cT.out _ I_w2.out.r).mono ?_)
  rintro e w3 ⟨rfl, hb3⟩
  have I_w3 := Lib.hid (I_w2.out.below hb3)
  have Pb_w3 := Lib.hid (Pb_w2.out.below hb3)
  have C_w3 := Lib.hid (C_w2.out.below hb3)
  have X_w3 := Lib.hid (X_w2.out.below hb3)
  have z0_w3 : w.heap.size < w3.heap.size := Nat.lt_of_lt_of_le z0_w2 hb3.size
  have z1_w3 : n1 < w3.heap.size := Nat.lt_of_lt_of_le z1_w2 hb3.size
  have z2_w3 : n2 < w3.heap.size := Nat.lt_of_lt_of_le z2_w2 hb3.size
  have z3_w3 : n3 < w3.heap.size := Nat.lt_of_lt_of_le z3_w2 hb3.size
  have B_w3 := bt B_w2 hb3
  clear I_w2 Pb_w2 C_w2 X_w2 z0_w2 z1_w2 z2_w2 z3_w2 B_w2 hb3
  clear cT
  cases R with
  | false =>
    have hs9 := Lib.hid (show w.heap.size ≤ w3.heap.size from Nat.le_of_lt z0_w3)
    have hu9 := hu.out
    obtain rfl : t = u := hu9
    clear hpre hu
    have o_I_0 := I_w3.out.c (i := 0) rfl
    have o_I_1 := I_w3.out.c (i := 1) rfl
    have o_I_2 := I_w3.out.c (i := 2) rfl
    have o_I_3 := I_w3.out.c (i := 3) rfl
    have o_I_4 := I_w3.out.c (i := 4) rfl
    have o_I_5 := I_w3.out.c (i := 5) rfl
    have o_I_6 := I_w3.out.c (i := 6) rfl
    go_wp2_with fail
    clear o_I_0 o_I_1 o_I_2 o_I_3 o_I_4 o_I_5 o_I_6
    go_at_call 33
    (with_reducible refine (o_copy hl'.out I_w3.out.r).mono ?_)
    rintro e w4 ⟨gC, gU, gI, gS, rfl, bk, hb4⟩
    have I_w4 := Lib.hid (I_w3.out.below hb4)
    have Pb_w4 := Lib.hid (Pb_w3.out.below hb4)
    have C_w4 := Lib.hid (C_w3.out.below hb4)
    have X_w4 := Lib.hid (X_w3.out.below hb4)
    have z0_w4 : w.heap.size < w4.heap.size := Nat.lt_of_lt_of_le z0_w3 hb4.size
    have z1_w4 : n1 < w4.heap.size := Nat.lt_of_lt_of_le z1_w3 hb4.size
    have z2_w4 : n2 < w4.heap.size := Nat.lt_of_lt_of_le z2_w3 hb4.size
    have z3_w4 : n3 < w4.heap.size := Nat.lt_of_lt_of_le z3_w3 hb4.size
    have B_w4 := bt B_w3 hb4
    clear I_w3 Pb_w3 C_w3 X_w3 z0_w3 z1_w3 z2_w3 z3_w3 B_w3 hb4
    have bk9 := Lib.hid (bk.base hs9.out)
    clear bk
    have o_X_0 := X_w4.out.c (i := 0) rfl
    have o_X_1 := X_w4.out.c (i := 1) rfl
    have o_X_2 := X_w4.out.c (i := 2) rfl
    have o_X_3 := X_w4.out.c (i := 3) rfl
    have o_X_4 := X_w4.out.c (i := 4) rfl
    have o_X_5 := X_w4.out.c (i := 5) rfl
    have o_X_6 := X_w4.out.c (i := 6) rfl
    have p_X_0 := X_w4.out.f 0
    have p_X_1 := X_w4.out.f 1
    have p_X_2 := X_w4.out.f 2
    have p_X_3 := X_w4.out.f 3
    have p_X_4 := X_w4.out.f 4
    have p_X_5 := X_w4.out.f 5
    have p_X_6 := X_w4.out.f 6
    have hzx := X_w4.out.lt
    have hb9 := Lib.hid B_w4
    have x9 := X_w4
    clear B_w4
    go_wp2_with fail
    refine bodyPost_ret (v := .tuple #[tvO t gC gU gI gS, .bool false, .int .i64 0]) (by simp [results, Try.results8, go_sem, o_X_0, o_X_1, o_X_2, o_X_3, o_X_4, o_X_5, o_X_6]) rfl ?_
    exact Blks.ret (mk := fun x => .tuple #[x, .bool false, .int .i64 0]) (Blks.set7 bk9.out x9.out) (set7_bel hb9.out hge.out)
  | true =>
    have hs9 := Lib.hid (show w.heap.size ≤ w3.heap.size from Nat.le_of_lt z0_w3)
    have hact := Lib.hid (hear1_act (n := w3.heap.size) hpi hi8 C_w3.out Pb_w3.out rfl)
    have o_I_0 := I_w3.out.c (i := 0) rfl
    have o_I_1 := I_w3.out.c (i := 1) rfl
    have o_I_2 := I_w3.out.c (i := 2) rfl
    have o_I_3 := I_w3.out.c (i := 3) rfl
    have o_I_4 := I_w3.out.c (i := 4) rfl
    have o_I_5 := I_w3.out.c (i := 5) rfl
    have o_I_6 := I_w3.out.c (i := 6) rfl
    go_wp2_with fail
    clear o_I_0 o_I_1 o_I_2 o_I_3 o_I_4 o_I_5 o_I_6
    go_at_call 34
    (with_reducible refine (o_change (g := 35) (cb := #[.pointer (some ⟨n2, 0, none⟩), .pointer (some ⟨n1, 0, none⟩)]) hear1_enters hact.out (hpre.out (by trivial)) hl'.out I_w3.out.r).mono ?_)
    rintro e w44 ⟨gC, gU, gI, gS, rfl, bk, hb44⟩
    have I_w44 := Lib.hid (I_w3.out.below hb44)
    have Pb_w44 := Lib.hid (Pb_w3.out.below hb44)
    have C_w44 := Lib.hid (C_w3.out.below hb44)
    have X_w44 := Lib.hid (X_w3.out.below hb44)
    have z0_w44 : w.heap.size < w44.heap.size := Nat.lt_of_lt_of_le z0_w3 hb44.size
    have z1_w44 : n1 < w44.heap.size := Nat.lt_of_lt_of_le z1_w3 hb44.size
    have z2_w44 : n2 < w44.heap.size := Nat.lt_of_lt_of_le z2_w3 hb44.size
    have z3_w44 : n3 < w44.heap.size := Nat.lt_of_lt_of_le z3_w3 hb44.size
    have B_w44 := bt B_w3 hb44
    clear I_w3 Pb_w3 C_w3 X_w3 z0_w3 z1_w3 z2_w3 z3_w3 B_w3 hb44
    have hu9 : (t.know p ⟨true, q, a⟩).settle = u := hu.out
    rw [hu9] at bk ⊢
    clear hu9
    have bk9 := bk.base hs9.out
    clear bk hact
    go_upto_region 9 with fail
    obtain ⟨w45, hw45⟩ : ∃ W, W = w44.alloc (.cells #[.int .i64 u.self.id, .slice (some ⟨gC, 0, none⟩) u.self.costs.length u.self.costs.length, .slice (some ⟨gU, 0, none⟩) u.self.ups.length u.self.ups.length, .slice (some ⟨gI, 0, none⟩) u.self.infos.length u.self.infos.length, .slice (some ⟨gS, 0, none⟩) u.states.length u.states.length, .int .i64 u.mx, .int .i64 u.dl] 29) := ⟨_, rfl⟩
    have bw45 : Below w44.heap.size w44 w45 := by rw [hw45]; exact (Below.refl _ _).alloc (Nat.le_refl _) _
    have hq9 := bw45
    have Xw45 : Bx w45 w44.heap.size 29 #[.int .i64 u.self.id, .slice (some ⟨gC, 0, none⟩) u.self.costs.length u.self.costs.length, .slice (some ⟨gU, 0, none⟩) u.self.ups.length u.self.ups.length, .slice (some ⟨gI, 0, none⟩) u.self.infos.length u.self.infos.length, .slice (some ⟨gS, 0, none⟩) u.states.length u.states.length, .int .i64 u.mx, .int .i64 u.dl] := by rw [hw45]; exact Bx.new _ _ _ rfl
    rw [← hw45]
    clear hw45
    have I_w45 := Lib.hid (I_w44.out.below bw45)
    have Pb_w45 := Lib.hid (Pb_w44.out.below bw45)
    have C_w45 := Lib.hid (C_w44.out.below bw45)
    have X_w45 := Lib.hid (X_w44.out.below bw45)
    have A_w45 := Lib.hid (Xw45)
    have z0_w45 : w.heap.size < w45.heap.size := Nat.lt_of_lt_of_le z0_w44 bw45.size
    have z1_w45 : n1 < w45.heap.size := Nat.lt_of_lt_of_le z1_w44 bw45.size
    have z2_w45 : n2 < w45.heap.size := Nat.lt_of_lt_of_le z2_w44 bw45.size
    have z3_w45 : n3 < w45.heap.size := Nat.lt_of_lt_of_le z3_w44 bw45.size
    have B_w45 := bt B_w44 bw45
    clear I_w44 Pb_w44 C_w44 X_w44 z0_w44 z1_w44 z2_w44 z3_w44 B_w44 bw45
    have z4_w45 : w44.heap.size < w45.heap.size := Xw45.lt
    clear Xw45
    have bk8 := Lib.hid (bk9.below (w' := w45) (by have := hq9; exact this))
    clear bk9 hq9
    have o_A_0 := A_w45.out.c (i := 0) rfl
    have o_A_1 := A_w45.out.c (i := 1) rfl
    have o_A_2 := A_w45.out.c (i := 2) rfl
    have o_A_3 := A_w45.out.c (i := 3) rfl
    have o_A_4 := A_w45.out.c (i := 4) rfl
    have o_A_5 := A_w45.out.c (i := 5) rfl
    have o_A_6 := A_w45.out.c (i := 6) rfl
    have o_X_0 := X_w45.out.c (i := 0) rfl
    have o_X_1 := X_w45.out.c (i := 1) rfl
    have o_X_2 := X_w45.out.c (i := 2) rfl
    have o_X_3 := X_w45.out.c (i := 3) rfl
    have o_X_4 := X_w45.out.c (i := 4) rfl
    have o_X_5 := X_w45.out.c (i := 5) rfl
    have o_X_6 := X_w45.out.c (i := 6) rfl
    have p_X_0 := X_w45.out.f 0
    have p_X_1 := X_w45.out.f 1
    have p_X_2 := X_w45.out.f 2
    have p_X_3 := X_w45.out.f 3
    have p_X_4 := X_w45.out.f 4
    have p_X_5 := X_w45.out.f 5
    have p_X_6 := X_w45.out.f 6
    have hzx := X_w45.out.lt
    have hb9 := Lib.hid B_w45
    have x9 := X_w45
    clear B_w45
    go_wp2_with fail
    refine bodyPost_ret (v := .tuple #[tvO u gC gU gI gS, .bool true, .int .i64 0]) (by simp [results, Try.results8, go_sem, o_X_0, o_X_1, o_X_2, o_X_3, o_X_4, o_X_5, o_X_6]) rfl ?_
    exact Blks.ret (mk := fun x => .tuple #[x, .bool true, .int .i64 0]) (Blks.set7 bk8.out x9.out) (set7_bel hb9.out hge.out)
set_option maxHeartbeats 16000000 in
theorem o_link_bad {t : T} {AC : Option Addr} {cC : Nat} {AU : Option Addr} {cU : Nat} {AI : Option Addr} {cI : Nat} {AS : Option Addr} {cS : Nat} {w : World} {p er : Int} {up : Bool} (he : chkI t p = er) (h0 : er ≠ 0) (hl : Len t) (hR : TreeR w t AC cC AU cU AI cI AS cS) :
    Calls Try.prog 17 #[tv t AC cC AU cU AI cI AS cS, .int .i64 p, .bool up] w (RetT w (fun b => OffT b t AC AU AI AS) T0 (fun x => .tuple #[x, .int .i64 er])) := by
  obtain ⟨w0, hw0⟩ : ∃ W, W = (((w.alloc (.cells #[.int .i64 t.self.id, .slice AC t.self.costs.length cC, .slice AU t.self.ups.length cU, .slice AI t.self.infos.length cI, .slice AS t.states.length cS, .int .i64 t.mx, .int .i64 t.dl] 29)).alloc (.cells #[.int .i64 p] 3)).alloc (.cells #[.bool up] 4)).alloc (.cells #[.int .i64 0, .slice none 0 0, .slice none 0 0, .slice none 0 0, .slice none 0 0, .int .i64 0, .int .i64 0] 29) := ⟨_, rfl⟩
  obtain ⟨n1, hn1⟩ : ∃ n, w.heap.size + 1 = n := ⟨_, rfl⟩
  obtain ⟨n2, hn2⟩ : ∃ n, n1 + 1 = n := ⟨_, rfl⟩
  obtain ⟨n3, hn3⟩ : ∃ n, n2 + 1 = n := ⟨_, rfl⟩
  have b0 : Below w.heap.size w w0 := by rw [hw0]; exact (((((Below.refl _ _).alloc (Nat.le_refl _) _).alloc (by simp) _).alloc (by simp; omega) _).alloc (by simp; omega) _)
  have X0 : Bx w0 w.heap.size 29 #[.int .i64 t.self.id, .slice AC t.self.costs.length cC, .slice AU t.self.ups.length cU, .slice AI t.self.infos.length cI, .slice AS t.states.length cS, .int .i64 t.mx, .int .i64 t.dl] := by rw [hw0]; exact (((Bx.new _ _ _ rfl).alloc _).alloc _).alloc _
  have Pb := Lib.hid (show Bx w0 n1 3 #[.int .i64 p] by rw [hw0]; exact ((Bx.new _ _ _ (by simp; omega)).alloc _).alloc _)
  have C := Lib.hid (show Bx w0 n2 4 #[.bool up] by rw [hw0]; exact (Bx.new _ _ _ (by simp; omega)).alloc _)
  have X := Lib.hid (show Bx w0 n3 29 #[.int .i64 0, .slice none 0 0, .slice none 0 0, .slice none 0 0, .slice none 0 0, .int .i64 0, .int .i64 0] by rw [hw0]; exact Bx.new _ _ _ (by simp; omega))
  have I := Lib.hid (show InT w w0 t AC cC AU cU AI cI AS cS from ⟨b0, X0, hR.below b0⟩)
  have hlt := Lib.hid (show w.heap.size ≤ w0.heap.size from b0.size)
  have hge := Lib.hid (show w.heap.size ≤ n3 by omega)
  have hcall := Lib.hid (o_check p er he hl I.out.r)
  have hne : (er != 0) = true := by simpa using h0
  replace h0 := Lib.hid h0
  clear he hl
  have B0 := I.out.b
  have z0 := I.out.x.lt
  have z1 := Pb.out.lt
  have z2 := C.out.lt
  have z3 := X.out.lt
  clear b0 X0 hR
  go_enter Try.func17, Try.ntmps17
  go_upto_region 1 with fail
  rw [← hw0]
  clear hw0 hn1 hn2 hn3
  have o_I_0 := I.out.c (i := 0) rfl
  have o_I_1 := I.out.c (i := 1) rfl
  have o_I_2 := I.out.c (i := 2) rfl
  have o_I_3 := I.out.c (i := 3) rfl
  have o_I_4 := I.out.c (i := 4) rfl
  have o_I_5 := I.out.c (i := 5) rfl
  have o_I_6 := I.out.c (i := 6) rfl
  have o_Pb_0 := Pb.out.c (i := 0) rfl
  go_wp2_with fail
  clear o_I_0 o_I_1 o_I_2 o_I_3 o_I_4 o_I_5 o_I_6 o_Pb_0
  go_at_call 30
  (with_reducible refine (hcall.out).mono ?_)
  rintro e w1 ⟨rfl, hb1⟩
  have I_w1 := Lib.hid (I.out.below hb1)
  have Pb_w1 := Lib.hid (Pb.out.below hb1)
  have C_w1 := Lib.hid (C.out.below hb1)
  have X_w1 := Lib.hid (X.out.below hb1)
  have z0_w1 : w.heap.size < w1.heap.size := Nat.lt_of_lt_of_le z0 hb1.size
  have z1_w1 : n1 < w1.heap.size := Nat.lt_of_lt_of_le z1 hb1.size
  have z2_w1 : n2 < w1.heap.size := Nat.lt_of_lt_of_le z2 hb1.size
  have z3_w1 : n3 < w1.heap.size := Nat.lt_of_lt_of_le z3 hb1.size
  have B_w1 := bt B0 hb1
  clear I Pb C X z0 z1 z2 z3 B0 hb1
  clear hcall
  have o_X_0 := X_w1.out.c (i := 0) rfl
  have o_X_1 := X_w1.out.c (i := 1) rfl
  have o_X_2 := X_w1.out.c (i := 2) rfl
  have o_X_3 := X_w1.out.c (i := 3) rfl
  have o_X_4 := X_w1.out.c (i := 4) rfl
  have o_X_5 := X_w1.out.c (i := 5) rfl
  have o_X_6 := X_w1.out.c (i := 6) rfl
  have p_X_0 := X_w1.out.f 0
  have p_X_1 := X_w1.out.f 1
  have p_X_2 := X_w1.out.f 2
  have p_X_3 := X_w1.out.f 3
  have p_X_4 := X_w1.out.f 4
  have p_X_5 := X_w1.out.f 5
  have p_X_6 := X_w1.out.f 6
  have hzx := X_w1.out.lt
  have hb9 := Lib.hid B_w1
  clear B_w1
  go_wp2_with fail
  refine bodyPost_ret (v := .tuple #[.agg #[.int .i64 0, .slice none 0 0, .slice none 0 0, .slice none 0 0, .slice none 0 0, .int .i64 0, .int .i64 0], .int .i64 er]) (by simp [results, Try.results17, go_sem, o_X_0, o_X_1, o_X_2, o_X_3, o_X_4, o_X_5, o_X_6]) rfl ?_
  exact ret0 (mk := fun x => .tuple #[x, .int .i64 er]) (set7_bel hb9.out hge.out)
set_option maxHeartbeats 16000000 in
theorem o_link_ok {t : T} {AC : Option Addr} {cC : Nat} {AU : Option Addr} {cU : Nat} {AI : Option Addr} {cI : Nat} {AS : Option Addr} {cS : Nat} {w : World} {p : Nat} {up : Bool} (hok : t.ok = true) (hp : p < t.states.length) (hl : Len t) (hR : TreeR w t AC cC AU cU AI cI AS cS) :
    Calls Try.prog 17 #[tv t AC cC AU cU AI cI AS cS, .int .i64 (p : Int), .bool up] w (RetT w (fun b => OffT b t AC AU AI AS) (t.link p up) (fun x => .tuple #[x, .int .i64 0])) := by
  obtain ⟨w0, hw0⟩ : ∃ W, W = (((w.alloc (.cells #[.int .i64 t.self.id, .slice AC t.self.costs.length cC, .slice AU t.self.ups.length cU, .slice AI t.self.infos.length cI, .slice AS t.states.length cS, .int .i64 t.mx, .int .i64 t.dl] 29)).alloc (.cells #[.int .i64 (p : Int)] 3)).alloc (.cells #[.bool up] 4)).alloc (.cells #[.int .i64 0, .slice none 0 0, .slice none 0 0, .slice none 0 0, .slice none 0 0, .int .i64 0, .int .i64 0] 29) := ⟨_, rfl⟩
  obtain ⟨n1, hn1⟩ : ∃ n, w.heap.size + 1 = n := ⟨_, rfl⟩
  obtain ⟨n2, hn2⟩ : ∃ n, n1 + 1 = n := ⟨_, rfl⟩
  obtain ⟨n3, hn3⟩ : ∃ n, n2 + 1 = n := ⟨_, rfl⟩
  have b0 : Below w.heap.size w w0 := by rw [hw0]; exact (((((Below.refl _ _).alloc (Nat.le_refl _) _).alloc (by simp) _).alloc (by simp; omega) _).alloc (by simp; omega) _)
  have X0 : Bx w0 w.heap.size 29 #[.int .i64 t.self.id, .slice AC t.self.costs.length cC, .slice AU t.self.ups.length cU, .slice AI t.self.infos.length cI, .slice AS t.states.length cS, .int .i64 t.mx, .int .i64 t.dl] := by rw [hw0]; exact (((Bx.new _ _ _ rfl).alloc _).alloc _).alloc _
  have Pb := Lib.hid (show Bx w0 n1 3 #[.int .i64 (p : Int)] by rw [hw0]; exact ((Bx.new _ _ _ (by simp; omega)).alloc _).alloc _)
  have C := Lib.hid (show Bx w0 n2 4 #[.bool up] by rw [hw0]; exact (Bx.new _ _ _ (by simp; omega)).alloc _)
  have X := Lib.hid (show Bx w0 n3 29 #[.int .i64 0, .slice none 0 0, .slice none 0 0, .slice none 0 0, .slice none 0 0, .int .i64 0, .int .i64 0] by rw [hw0]; exact Bx.new _ _ _ (by simp; omega))
  have I := Lib.hid (show InT w w0 t AC cC AU cU AI cI AS cS from ⟨b0, X0, hR.below b0⟩)
  have hlt := Lib.hid (show w.heap.size ≤ w0.heap.size from b0.size)
  have hge := Lib.hid (show w.heap.size ≤ n3 by omega)
  have hcall := Lib.hid (o_check (p : Int) 0 (show chkI t (p : Int) = 0 by unfold chkI; rw [if_pos hok, if_neg (by omega)]) hl I.out.r)
  obtain ⟨k1, k2, k3, k4⟩ := ok_headT hok
  have e1 := (head_iff.1 (ok_head k1)).2
  have hpi : p < t.self.infos.length := by omega
  have hpu : p < t.self.ups.length := by omega
  have hi8 : t.self.infos.length ≤ 8 := by omega
  have hu8 : t.self.ups.length ≤ 8 := by omega
  have hpre := Lib.hid (show Pre (t.linked p up) by rw [linked_eq hok hp]; exact blank_pre hok hp)
  obtain ⟨u, hu⟩ : ∃ u, (t.linked p up).settle = u := ⟨_, rfl⟩
  have hlk : t.link p up = u := by rw [← hu, linked_eq hok hp]; rfl
  rw [hlk]
  have hl' := Lib.hid hl
  replace hu := Lib.hid hu
  clear hl hok hp hlk k1 k2 k3 k4 e1
  have B0 := I.out.b
  have z0 := I.out.x.lt
  have z1 := Pb.out.lt
  have z2 := C.out.lt
  have z3 := X.out.lt
  clear b0 X0 hR
  go_enter Try.func17, Try.ntmps17
  go_upto_region 1 with fail
  rw [← hw0]
  clear hw0 hn1 hn2 hn3
  have o_I_0 := I.out.c (i := 0) rfl
  have o_I_1 := I.out.c (i := 1) rfl
  have o_I_2 := I.out.c (i := 2) rfl
  have o_I_3 := I.out.c (i := 3) rfl
  have o_I_4 := I.out.c (i := 4) rfl
  have o_I_5 := I.out.c (i := 5) rfl
  have o_I_6 := I.out.c (i := 6) rfl
  have o_Pb_0 := Pb.out.c (i := 0) rfl
  go_wp2_with fail
  clear o_I_0 o_I_1 o_I_2 o_I_3 o_I_4 o_I_5 o_I_6 o_Pb_0
  go_at_call 30
  (with_reducible refine (hcall.out).mono ?_)
  rintro e w1 ⟨rfl, hb1⟩
  have I_w1 := Lib.hid (I.out.below hb1)
  have Pb_w1 := Lib.hid (Pb.out.below hb1)
  have C_w1 := Lib.hid (C.out.below hb1)
  have X_w1 := Lib.hid (X.out.below hb1)
  have z0_w1 : w.heap.size < w1.heap.size := Nat.lt_of_lt_of_le z0 hb1.size
  have z1_w1 : n1 < w1.heap.size := Nat.lt_of_lt_of_le z1 hb1.size
  have z2_w1 : n2 < w1.heap.size := Nat.lt_of_lt_of_le z2 hb1.size
  have z3_w1 : n3 < w1.heap.size := Nat.lt_of_lt_of_le z3 hb1.size
  have B_w1 := bt B0 hb1
  clear I Pb C X z0 z1 z2 z3 B0 hb1
  clear hcall
  have hs9 := Lib.hid (show w.heap.size ≤ w1.heap.size from Nat.le_of_lt z0_w1)
  have hact := Lib.hid (link1_act (n := w1.heap.size) (up := up) hpi hpu hi8 hu8 C_w1.out Pb_w1.out rfl)
  have o_I_0 := I_w1.out.c (i := 0) rfl
  have o_I_1 := I_w1.out.c (i := 1) rfl
  have o_I_2 := I_w1.out.c (i := 2) rfl
  have o_I_3 := I_w1.out.c (i := 3) rfl
  have o_I_4 := I_w1.out.c (i := 4) rfl
  have o_I_5 := I_w1.out.c (i := 5) rfl
  have o_I_6 := I_w1.out.c (i := 6) rfl
  go_wp2_with fail
  clear o_I_0 o_I_1 o_I_2 o_I_3 o_I_4 o_I_5 o_I_6
  go_at_call 34
  (with_reducible refine (o_change (g := 53) (cb := #[.pointer (some ⟨n2, 0, none⟩), .pointer (some ⟨n1, 0, none⟩)]) link1_enters hact.out hpre.out hl'.out I_w1.out.r).mono ?_)
  rintro e w2 ⟨gC, gU, gI, gS, rfl, bk, hb2⟩
  have I_w2 := Lib.hid (I_w1.out.below hb2)
  have Pb_w2 := Lib.hid (Pb_w1.out.below hb2)
  have C_w2 := Lib.hid (C_w1.out.below hb2)
  have X_w2 := Lib.hid (X_w1.out.below hb2)
  have z0_w2 : w.heap.size < w2.heap.size := Nat.lt_of_lt_of_le z0_w1 hb2.size
  have z1_w2 : n1 < w2.heap.size := Nat.lt_of_lt_of_le z1_w1 hb2.size
  have z2_w2 : n2 < w2.heap.size := Nat.lt_of_lt_of_le z2_w1 hb2.size
  have z3_w2 : n3 < w2.heap.size := Nat.lt_of_lt_of_le z3_w1 hb2.size
  have B_w2 := bt B_w1 hb2
  clear I_w1 Pb_w1 C_w1 X_w1 z0_w1 z1_w1 z2_w1 z3_w1 B_w1 hb2
  rw [hu.out] at bk ⊢
  have bk9 := bk.base hs9.out
  clear bk hact
  go_upto_region 5 with fail
  obtain ⟨w3, hw3⟩ : ∃ W, W = w2.alloc (.cells #[.int .i64 u.self.id, .slice (some ⟨gC, 0, none⟩) u.self.costs.length u.self.costs.length, .slice (some ⟨gU, 0, none⟩) u.self.ups.length u.self.ups.length, .slice (some ⟨gI, 0, none⟩) u.self.infos.length u.self.infos.length, .slice (some ⟨gS, 0, none⟩) u.states.length u.states.length, .int .i64 u.mx, .int .i64 u.dl] 29) := ⟨_, rfl⟩
  have bw3 : Below w2.heap.size w2 w3 := by rw [hw3]; exact (Below.refl _ _).alloc (Nat.le_refl _) _
  have hq9 := bw3
  have Xw3 : Bx w3 w2.heap.size 29 #[.int .i64 u.self.id, .slice (some ⟨gC, 0, none⟩) u.self.costs.length u.self.costs.length, .slice (some ⟨gU, 0, none⟩) u.self.ups.length u.self.ups.length, .slice (some ⟨gI, 0, none⟩) u.self.infos.length u.self.infos.length, .slice (some ⟨gS, 0, none⟩) u.states.length u.states.length, .int .i64 u.mx, .int .i64 u.dl] := by rw [hw3]; exact Bx.new _ _ _ rfl
  rw [← hw3]
  clear hw3
  have I_w3 := Lib.hid (I_w2.out.below bw3)
  have Pb_w3 := Lib.hid (Pb_w2.out.below bw3)
  have C_w3 := Lib.hid (C_w2.out.below bw3)
  have X_w3 := Lib.hid (X_w2.out.below bw3)
  have A_w3 := Lib.hid (Xw3)
  have z0_w3 : w.heap.size < w3.heap.size := Nat.lt_of_lt_of_le z0_w2 bw3.size
  have z1_w3 : n1 < w3.heap.size := Nat.lt_of_lt_of_le z1_w2 bw3.size
  have z2_w3 : n2 < w3.heap.size := Nat.lt_of_lt_of_le z2_w2 bw3.size
  have z3_w3 : n3 < w3.heap.size := Nat.lt_of_lt_of_le z3_w2 bw3.size
  have B_w3 := bt B_w2 bw3
  clear I_w2 Pb_w2 C_w2 X_w2 z0_w2 z1_w2 z2_w2 z3_w2 B_w2 bw3
  have z4_w3 : w2.heap.size < w3.heap.size := Xw3.lt
  clear Xw3
  have bk8 := Lib.hid (bk9.below (w' := w3) (by have := hq9; exact this))
  clear bk9 hq9
  have o_A_0 := A_w3.out.c (i := 0) rfl
  have o_A_1 := A_w3.out.c (i := 1) rfl
  have o_A_2 := A_w3.out.c (i := 2) rfl
  have o_A_3 := A_w3.out.c (i := 3) rfl
  have o_A_4 := A_w3.out.c (i := 4) rfl
  have o_A_5 := A_w3.out.c (i := 5) rfl
  have o_A_6 := A_w3.out.c (i := 6) rfl
  have o_X_0 := X_w3.out.c (i := 0) rfl
  have o_X_1 := X_w3.out.c (i := 1) rfl
  have o_X_2 := X_w3.out.c (i := 2) rfl
  have o_X_3 := X_w3.out.c (i := 3) rfl
  have o_X_4 := X_w3.out.c (i := 4) rfl
  have o_X_5 := X_w3.out.c (i := 5) rfl
  have o_X_6 := X_w3.out.c (i := 6) rfl
  have p_X_0 := X_w3.out.f 0
  have p_X_1 := X_w3.out.f 1
  have p_X_2 := X_w3.out.f 2
  have p_X_3 := X_w3.out.f 3
  have p_X_4 := X_w3.out.f 4
  have p_X_5 := X_w3.out.f 5
  have p_X_6 := X_w3.out.f 6
  have hzx := X_w3.out.lt
  have hb9 := Lib.hid B_w3
  have x9 := X_w3
  clear B_w3
  go_wp2_with fail
  refine bodyPost_ret (v := .tuple #[tvO u gC gU gI gS, .int .i64 0]) (by simp [results, Try.results17, go_sem, o_X_0, o_X_1, o_X_2, o_X_3, o_X_4, o_X_5, o_X_6]) rfl ?_
  exact Blks.ret (mk := fun x => .tuple #[x, .int .i64 0]) (Blks.set7 bk8.out x9.out) (set7_bel hb9.out hge.out)
end Go.Proofs.Ytidoaccidmmalaa.StpP
