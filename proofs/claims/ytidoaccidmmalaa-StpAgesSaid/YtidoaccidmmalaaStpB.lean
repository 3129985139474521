/-
  Contracts of footwayref12: active, Config, settle.
-/
import Derived.Test.YtidoaccidmmalaaStpA
import Derived.Test.YtidoaccidmmalaaRoleV
import Derived.Test.YtidoaccidmmalaaPortR
import Derived.Test.YtidoaccidmmalaaRegEnd
import Derived.Test.YtidoaccidmmalaaRegLit
namespace Go.Proofs.Ytidoaccidmmalaa.StpP
open Go.Proofs.Ytidoaccidmmalaa.MacP (arr_out Wrote wp_region_ends outM)
open Go.RowKit Go.Sort Go.Proofs.Ytidoaccidmmalaa.SliceP Go.Proofs.Ytidoaccidmmalaa.BoxP Go.Proofs.Ytidoaccidmmalaa.VecP Go.Proofs.Ytidoaccidmmalaa.RoleP
open Go.Proofs.Ytidoaccidmmalaa.IntP (RowI SlI OwnI)
open Go.Proofs.Ytidoaccidmmalaa.BoolP (RowB SlB OwnB)
open Go.Proofs.Ytidoaccidmmalaa.PortP (okS roleS tickS sv)
set_option linter.unusedVariables false
set_option maxRecDepth 100000
/-- Two blocks may have changed. -/
structure Sets (b1 b2 : Nat) (w w' : World) : Prop where
  os : w'.os = w.os
  tape : w'.tape = w.tape
  output : w'.output = w.output
  n : w'.heap.size = w.heap.size
  h : ∀ b, b ≠ b1 → b ≠ b2 → w'.heap[b]? = w.heap[b]?
section
variable {b1 b2 i : Nat} {w w' : World} {v : Value}
theorem Sets.refl : Sets b1 b2 w w := ⟨rfl, rfl, rfl, rfl, fun _ _ _ => rfl⟩
theorem Sets.one (h : Sets b1 b2 w w') : Sets b1 b2 w (w'.setCell ⟨b1, i, none⟩ v) := ⟨h.os, h.tape, h.output, by rw [← h.n]; simp [World.setCell], fun b h1 h2 => (heap_setCell_other w' ⟨b1, i, none⟩ b v h1).trans (h.h b h1 h2)⟩
theorem Sets.two (h : Sets b1 b2 w w') : Sets b1 b2 w (w'.setCell ⟨b2, i, none⟩ v) := ⟨h.os, h.tape, h.output, by rw [← h.n]; simp [World.setCell], fun b h1 h2 => (heap_setCell_other w' ⟨b2, i, none⟩ b v h2).trans (h.h b h1 h2)⟩
theorem Sets.sl {sz : Nat} {A : Option Addr} {xs : List (List Value)} (h : Sets b1 b2 w w') (hs : Sl w sz A xs) (hA : ∀ a, A = some a → a.block ≠ b1 ∧ a.block ≠ b2) : Sl w' sz A xs := fun hn => by
  obtain ⟨b, o, rfl, hb, hx⟩ := hs hn
  obtain ⟨h1, h2⟩ := hA _ rfl
  exact ⟨b, o, rfl, by rw [h.n]; exact hb, fun k cs hk j v hj => by rw [← hx k cs hk j v hj]; unfold World.cell?; rw [h.h b h1 h2]⟩
theorem Sets.below {n : Nat} {w0 : World} (h : Sets b1 b2 w w') (hb : Below n w0 w) (h1 : n ≤ b1) (h2 : n ≤ b2) : Below n w0 w' :=
  ⟨h.os.trans hb.os, h.tape.trans hb.tape, h.output.trans hb.output, by rw [h.n]; exact hb.size, fun k hk => (h.h k (by omega) (by omega)).trans (hb.block k hk)⟩
end
theorem own_lit0 (W : World) (e : TypeId) (sz B : Nat) (hB : B ≤ W.heap.size) : Own (W.alloc (.cells #[] e)) B e sz (.slice (some ⟨W.heap.size, 0, none⟩) 0 0) [] := by
  refine ⟨?_, Whole.nil⟩
  exact World.ownsRow_lit (base := B) (e := e) (size := sz) W #[] 0 hB (by unfold maxLen; omega) (by simp)
theorem Sets.slm {b1 b2 : Nat} {w w' : World} {α : Type} {f : α → List Value} {sz : Nat} {A : Option Addr} {l : List α} (h : Sets b1 b2 w w') (hs : Sl w sz A (l.map f)) (o1 : Off b1 A l) (o2 : Off b2 A l) : Sl w' sz A (l.map f) := fun hn => by
  have hl : l ≠ [] := by simpa using hn
  exact h.sl hs (fun a ha => ⟨o1 hl a ha, o2 hl a ha⟩) hn
theorem Sets.tree {b1 b2 : Nat} {w w' : World} {t : T} {AC : Option Addr} {cC : Nat} {AU : Option Addr} {cU : Nat} {AI : Option Addr} {cI : Nat} {AS : Option Addr} {cS : Nat} (h : Sets b1 b2 w w') (hr : TreeR w t AC cC AU cU AI cI AS cS) (o1 : OffT b1 t AC AU AI AS) (o2 : OffT b2 t AC AU AI AS) : TreeR w' t AC cC AU cU AI cI AS cS :=
  ⟨⟨⟨hr.self.costs.len, h.slm (f := fun x : Int => [Value.int .i64 x]) hr.self.costs.sl o1.c o2.c, hr.self.costs.cap, hr.self.costs.nil⟩, ⟨hr.self.ups.len, h.slm (f := fun x : Bool => [Value.bool x]) hr.self.ups.sl o1.u o2.u, hr.self.ups.cap, hr.self.ups.nil⟩, ⟨hr.self.infos.len, h.slm hr.self.infos.sl o1.n o2.n, hr.self.infos.cap, hr.self.infos.nil⟩⟩, ⟨hr.sts.len, h.slm hr.sts.sl o1.s o2.s, hr.sts.cap, hr.sts.nil⟩⟩
/-- A tree is handed back, out of a box, behind stores into it and into another one. -/
theorem fin_r {c n : Nat} {w wr W : World} {src : Nat → Prop} {t' : T} {AC : Option Addr} {cC : Nat} {AU : Option Addr} {cU : Nat} {AI : Option Addr} {cI : Nat} {AS : Option Addr} {cS : Nat} {mk : Value → Value} {v : Value} (hss : Sets w.heap.size (w.heap.size + c) wr W) (hbw : Below w.heap.size w wr) (hn : w.heap.size + c < n) (hv : v = mk (tv t' AC cC AU cU AI cI AS cS))
    (hr : TreeR wr t' AC cC AU cU AI cI AS cS) (s1 : ∀ b, w.heap.size ≤ b → src b) (hoff : ∀ b, src b → b < n → OffT b t' AC AU AI AS) : RetT w src t' mk (.returned v) W := by
  subst hv
  exact ⟨AC, cC, AU, cU, AI, cI, AS, cS, rfl, hss.tree hr (hoff _ (s1 _ (Nat.le_refl _)) (by omega)) (hoff _ (s1 _ (by omega)) hn), hss.below hbw (Nat.le_refl _) (by omega), fun b hb hs => hoff b hs (by omega)⟩
/-- What is owned lies in no box below. -/
theorem own_far {w : World} {B : Nat} {e : TypeId} {sz : Nat} {A : Option Addr} {n c : Nat} {xs : List (List Value)} (h : Own w B e sz (.slice A n c) xs) : ∀ a, A = some a → B ≤ a.block := fun a ha => by
  obtain ⟨A', c', hv, _, _, hA⟩ := h.form
  injection hv with e1 e2 e3
  subst e1
  rcases hA with ⟨h1, _⟩ | ⟨g, h1, h2, _⟩
  · rw [h1] at ha; cases ha
  · rw [h1] at ha; obtain rfl := Option.some.inj ha; exact h2
set_option maxHeartbeats 8000000 in
theorem r_active (r : Int) (w : World) : Calls Try.prog 41 #[.int .i64 r] w fun e w' => e = .returned (.bool (actI r)) ∧ Below w.heap.size w w' := by
  unfold actI
  go_enter Try.func41, Try.ntmps41
  by_cases h0 : r = 0
  · subst h0
    go_wp2_with fail
    go_ret
    exact ⟨rfl, Below.refl _ _⟩
  · by_cases h1 : r = 1
    · subst h1
      go_wp2_with fail
      go_ret
      exact ⟨rfl, Below.refl _ _⟩
    · have e0 : (r == 0) = false := by simpa using h0
      have e1 : (r == 1) = false := by simpa using h1
      rw [show decide (r = 0) = false by simpa using h0, show decide (r = 1) = false by simpa using h1]
      replace h0 := Lib.hid h0
      replace h1 := Lib.hid h1
      go_wp2_with fail
      go_ret
      exact ⟨rfl, Below.refl _ _⟩
theorem active_to {r : Int} {b : Bool} (h : actI r = b) (w : World) : Calls Try.prog 41 #[.int .i64 r] w fun e w' => e = .returned (.bool b) ∧ Below w.heap.size w w' := by
  have := r_active r w
  rwa [h] at this
set_option maxHeartbeats 8000000 in
theorem r_config (v : V) (a : Int) (w : World) : Calls Try.prog 14 #[cg v a] w fun e w' => e = .returned (.bool (cfgOk v a)) ∧ Below w.heap.size w w' := by
  unfold cfgOk
  obtain ⟨ok, hok⟩ : ∃ ok, v.ok = ok := ⟨_, rfl⟩
  have hr := Lib.hid (fun W => ref_right_is v.r v.c v.b v.p ok hok W)
  rw [hok]
  clear hok
  obtain ⟨w0, hw0⟩ : ∃ W, W = w.alloc (.cells #[.int .i64 v.r, .int .i64 v.c, .int .i64 v.b, .int .i64 v.p, .int .i64 a] 33) := ⟨_, rfl⟩
  have B0 := Lib.hid (show Below w.heap.size w w0 by rw [hw0]; exact (Below.refl _ _).alloc (Nat.le_refl _) _)
  have X0 := Lib.hid (show Bx w0 w.heap.size 33 #[.int .i64 v.r, .int .i64 v.c, .int .i64 v.b, .int .i64 v.p, .int .i64 a] by rw [hw0]; exact Bx.new _ _ _ rfl)
  go_enter Try.func14, Try.ntmps14
  go_wp2_with fail
  rw [← hw0]
  clear hw0
  go_at_call 46
  (with_reducible refine (hr.out _).mono ?_)
  rintro e w1 ⟨rfl, hb1⟩
  have B1 := Lib.hid (bt B0.out hb1)
  have z4 := (X0.out.below hb1).c (i := 4) rfl
  have hzl := (X0.out.below hb1).lt
  clear hb1 X0 B0 hr
  cases ok with
  | false =>
    go_wp2_with fail
    go_ret
    exact ⟨by rfl, B1.out⟩
  | true =>
    cases c1 : decide (0 ≤ a) <;> cases c2 : decide (a ≤ 255)
    all_goals
      go_wp2_with fail
      go_ret
      exact ⟨by rw [c1, c2]; rfl, B1.out⟩
set_option maxHeartbeats 16000000 in
theorem r_settle {t : T} {AC : Option Addr} {cC : Nat} {AU : Option Addr} {cU : Nat} {AI : Option Addr} {cI : Nat} {AS : Option Addr} {cS : Nat} {w : World} (hok : t.self.ok = true) (hl : t.states.length = t.self.costs.length) (hR : TreeR w t AC cC AU cU AI cI AS cS) :
    Calls Try.prog 44 #[tv t AC cC AU cU AI cI AS cS] w (RetT w (fun b => OffT b t AC AU AI AS) t.settle (fun v => v)) := by
  obtain ⟨w0, hw0⟩ : ∃ W, W = (w.alloc (.cells #[.int .i64 t.self.id, .slice AC t.self.costs.length cC, .slice AU t.self.ups.length cU, .slice AI t.self.infos.length cI, .slice AS t.states.length cS, .int .i64 t.mx, .int .i64 t.dl] 29)).alloc (.cells #[.int .i64 0, .slice none 0 0, .slice none 0 0, .slice none 0 0, .slice none 0 0, .int .i64 0, .int .i64 0] 29) := ⟨_, rfl⟩
  have I := Lib.hid (show InT w w0 t AC cC AU cU AI cI AS cS by rw [hw0]; exact (InT.new hR).below ((Below.refl _ _).alloc (Nat.le_refl _) _))
  have X := Lib.hid (show Bx w0 (w.heap.size + 1) 29 #[.int .i64 0, .slice none 0 0, .slice none 0 0, .slice none 0 0, .slice none 0 0, .int .i64 0, .int .i64 0] by rw [hw0]; exact Bx.new _ _ _ (by simp))
  have e0 := Lib.hid (show w.heap.size + 1 + 1 = w0.heap.size by rw [hw0]; simp)
  obtain ⟨w2, hw2⟩ : ∃ W, W = w0.alloc (.cells #[] 80) := ⟨_, rfl⟩
  have b2 : Below w0.heap.size w0 w2 := by rw [hw2]; exact (Below.refl _ _).alloc (Nat.le_refl _) _
  have O2 := Lib.hid (show OwnP w2 w0.heap.size (.slice (some ⟨w0.heap.size, 0, none⟩) 0 0) [] by rw [hw2]; exact own_lit0 w0 _ _ _ (Nat.le_refl _))
  have hlen : t.states.length ≤ 8 := by have := (head_iff.1 (ok_head hok)).2.1.2; omega
  have hF := Lib.hid (Fit.mk hok)
  replace hl := Lib.hid hl
  have hR0 := Lib.hid hR
  clear hR hok
  go_enter Try.func44, Try.ntmps44
  go_upto_region 2 with fail
  rw [e0.out, ← hw0, ← hw2]
  have I2 := Lib.hid (I.out.below b2)
  have z2 := I2.out.x.lt
  have o_I_0 := I2.out.c (i := 0) rfl
  have o_I_1 := I2.out.c (i := 1) rfl
  have o_I_2 := I2.out.c (i := 2) rfl
  have o_I_3 := I2.out.c (i := 3) rfl
  have o_I_4 := I2.out.c (i := 4) rfl
  have o_I_5 := I2.out.c (i := 5) rfl
  have o_I_6 := I2.out.c (i := 6) rfl
  have B2 := Lib.hid b2
  clear hw0 hw2 b2
  go_wp2_with fail
  clear o_I_0 o_I_1 o_I_2 o_I_3 o_I_4 o_I_5 o_I_6 z2
  go_loopw [3, 10] (fun v3 i wr => ∃ (k : Nat) (L : List (Int × Int)), k ≤ t.states.length ∧ i = .int .i64 k ∧ L = (List.range k).map t.settled ∧ OwnP wr w0.heap.size v3 L ∧ Below w0.heap.size w0 wr) (fun _ i _ => t.states.length - (intOf i).toNat)
  case atStart => exact ⟨0, [], by omega, rfl, rfl, O2.out, B2.out⟩
  case round =>
    clear I2 O2 B2
    obtain ⟨k, L, hk, rfl, hL, hown, hb⟩ := hrel
    obtain ⟨A3, c3, hv3⟩ := own_form hown
    subst hv3
    have Ir := Lib.hid (I.out.below hb)
    have Xr := Lib.hid (X.out.below hb)
    by_cases hkn : k < t.states.length
    · obtain ⟨bS, oS, rfl, hbS, q0, q1⟩ := SlP.at_ Ir.out.r.sts.sl (st_at (t := t) (p := k) hkn)
      obtain ⟨x, hx⟩ : ∃ x, t.st k = x := ⟨_, rfl⟩
      rw [hx] at q0 q1
      obtain ⟨rl, hrl⟩ : ∃ r, t.self.role k = r := ⟨_, rfl⟩
      obtain ⟨ac, hac⟩ : ∃ r, actI rl = r := ⟨_, rfl⟩
      obtain ⟨y, hy⟩ : ∃ y, roleS x.1 x.2 t.dl ac = y := ⟨_, rfl⟩
      have hyk := Lib.hid (show t.settled k = y by unfold T.settled T.act; rw [hx, hrl, hac, hy])
      have hsn := Lib.hid (show L ++ [y] = (List.range (k + 1)).map t.settled by rw [List.range_succ, List.map_append, ← hyk.out, hL]; rfl)
      have hlenL := Lib.hid (show L.length = k by rw [hL]; simp)
      have hkl : (k : Int) < (t.states.length : Int) := by omega
      have hkc := Lib.hid (show k < t.self.costs.length by rw [← hl.out]; exact hkn)
      have cR := Lib.hid fun (W : World) (h : SelfR W t.self AC cC AU cU AI cI) => role_to (w := W) hF.out h hkc.out hrl
      have cA := Lib.hid fun (W : World) => active_to hac W
      have cP := Lib.hid (show ∀ W : World, Calls Try.prog 72 #[sv x.1 x.2, .int .i64 t.dl, .bool ac] W fun e w' => e = .returned (sv y.1 y.2) ∧ Below W.heap.size W w' from fun W => by have := PortP.r_role x.1 x.2 t.dl ac W; rw [hy] at this; exact this)
      replace hL := Lib.hid hL
      replace hx := Lib.hid hx
      replace hrl := Lib.hid hrl
      replace hac := Lib.hid hac
      replace hy := Lib.hid hy
      replace hown := Lib.hid hown
      replace hb := Lib.hid hb
      have zr := Ir.out.x.lt
      go_upto_region 5 with fail
      obtain ⟨w1, hw1⟩ : ∃ W, W = wr.alloc (.cells #[.int .i64 x.1, .int .i64 x.2] 80) := ⟨_, rfl⟩
      have bw1 : Below wr.heap.size wr w1 := by rw [hw1]; exact (Below.refl _ _).alloc (Nat.le_refl _) _
      have Xw1 : Bx w1 wr.heap.size 80 #[.int .i64 x.1, .int .i64 x.2] := by rw [hw1]; exact Bx.new _ _ _ rfl
      rw [← hw1]
      clear hw1
      have I_w1 := Lib.hid (Ir.out.below bw1)
      have O_w1 := Lib.hid (hown.out.below bw1)
      have N_w1 := Lib.hid (Xw1)
      have z0_w1 : w.heap.size < w1.heap.size := Nat.lt_of_lt_of_le zr bw1.size
      clear Ir hown zr
      have z1_w1 : wr.heap.size < w1.heap.size := Xw1.lt
      clear Xw1
      clear q0 q1 hbS
      have o_I_0 := I_w1.out.c (i := 0) rfl
      have o_I_1 := I_w1.out.c (i := 1) rfl
      have o_I_2 := I_w1.out.c (i := 2) rfl
      have o_I_3 := I_w1.out.c (i := 3) rfl
      have o_I_4 := I_w1.out.c (i := 4) rfl
      have o_I_5 := I_w1.out.c (i := 5) rfl
      have o_I_6 := I_w1.out.c (i := 6) rfl
      have o_N_0 := N_w1.out.c (i := 0) rfl
      have o_N_1 := N_w1.out.c (i := 1) rfl
      have hbx : Below wr.heap.size wr w1 := bw1
      refine wp_region_ends (by kernel_rfl) (fun ix => match ix with | 0 => 15 | 1 => 16 | 2 => 17 | 3 => 18 | 4 => 19 | 5 => 20 | 6 => 21 | 7 => 22 | 8 => 23 | 9 => 24 | 10 => 25 | _ => 0) 11 (by kernel_rfl) (fun i v W => match i with | 0 => v = .slice A3 L.length c3 | 1 => v = .agg #[.int .i64 x.1, .int .i64 x.2] | 2 => v = .pointer (some ⟨w.heap.size, 6, none⟩) | 3 => v = .int .i64 t.dl | 4 => v = .pointer (some ⟨w.heap.size, 0, none⟩) | 5 => v = .agg #[.int .i64 t.self.id, .slice AC t.self.costs.length cC, .slice AU t.self.ups.length cU, .slice AI t.self.infos.length cI] | 6 => v = .int .i64 k | 7 => v = .int .i64 rl | 8 => v = .bool ac | 9 => v = sv y.1 y.2 | 10 => ∃ b, v = .slice (some ⟨b, 0, none⟩) 1 1 ∧ Bx W b 80 #[.int .i64 y.1, .int .i64 y.2] | _ => True) (fun i v W W' h hb => by
          match i with
          | 0 => exact h
          | 1 => exact h
          | 2 => exact h
          | 3 => exact h
          | 4 => exact h
          | 5 => exact h
          | 6 => exact h
          | 7 => exact h
          | 8 => exact h
          | 9 => exact h
          | 10 => exact (by obtain ⟨b, h1, h2⟩ := h; exact ⟨b, h1, h2.below hb⟩)
          | n + 11 => exact trivial) ?_ ?_
      refine ⟨?_, ?_, ?_, ?_, ?_, ?_, ?_, ?_, ?_, ?_, ?_, trivial⟩
      · as_aux_lemma =>
          intro a W2 K hb hdep hk hK
          replace hK : ∀ v w', (v = .slice A3 L.length c3) → Below W2.heap.size W2 w' → K (a.put (some 15) v) w' := hK
          have d3 : a.tmps.getD 3 undef = .slice A3 L.length c3 := hk 3 (by kernel_rfl)
          clear hdep hk hb
          go_simp
          exact hK _ _ rfl (Below.refl _ _)
      · as_aux_lemma =>
          intro a W2 K hb hdep hk hK
          replace hK : ∀ v w', (v = .agg #[.int .i64 x.1, .int .i64 x.2]) → Below W2.heap.size W2 w' → K (a.put (some 16) v) w' := hK
          have d5 : a.tmps.getD 5 undef = .pointer (some ⟨wr.heap.size, 0, none⟩) := hk 5 (by kernel_rfl)
          have t0 := (hb.cell (p := ⟨wr.heap.size, 0, none⟩) z1_w1).trans o_N_0
          have t1 := (hb.cell (p := ⟨wr.heap.size, 1, none⟩) z1_w1).trans o_N_1
          clear hdep hk hb
          go_simp
          exact hK _ _ rfl (Below.refl _ _)
      · as_aux_lemma =>
          intro a W2 K hb hdep hk hK
          replace hK : ∀ v w', (v = .pointer (some ⟨w.heap.size, 6, none⟩)) → Below W2.heap.size W2 w' → K (a.put (some 17) v) w' := hK
          have d1 : a.tmps.getD 1 undef = .pointer (some ⟨w.heap.size, 0, none⟩) := hk 1 (by kernel_rfl)
          clear hdep hk hb
          go_simp
          exact hK _ _ rfl (Below.refl _ _)
      · as_aux_lemma =>
          intro a W2 K hb hdep hk hK
          replace hK : ∀ v w', (v = .int .i64 t.dl) → Below W2.heap.size W2 w' → K (a.put (some 18) v) w' := hK
          have d17 : a.tmps.getD 17 undef = .pointer (some ⟨w.heap.size, 6, none⟩) := hdep ⟨2, .data⟩ (by simp) rfl
          have t0 := (hb.cell (p := ⟨w.heap.size, 0, none⟩) z0_w1).trans o_I_0
          have t1 := (hb.cell (p := ⟨w.heap.size, 1, none⟩) z0_w1).trans o_I_1
          have t2 := (hb.cell (p := ⟨w.heap.size, 2, none⟩) z0_w1).trans o_I_2
          have t3 := (hb.cell (p := ⟨w.heap.size, 3, none⟩) z0_w1).trans o_I_3
          have t4 := (hb.cell (p := ⟨w.heap.size, 4, none⟩) z0_w1).trans o_I_4
          have t5 := (hb.cell (p := ⟨w.heap.size, 5, none⟩) z0_w1).trans o_I_5
          have t6 := (hb.cell (p := ⟨w.heap.size, 6, none⟩) z0_w1).trans o_I_6
          clear hdep hk hb
          go_simp
          exact hK _ _ rfl (Below.refl _ _)
      · as_aux_lemma =>
          intro a W2 K hb hdep hk hK
          replace hK : ∀ v w', (v = .pointer (some ⟨w.heap.size, 0, none⟩)) → Below W2.heap.size W2 w' → K (a.put (some 19) v) w' := hK
          have d1 : a.tmps.getD 1 undef = .pointer (some ⟨w.heap.size, 0, none⟩) := hk 1 (by kernel_rfl)
          clear hdep hk hb
          go_simp
          exact hK _ _ rfl (Below.refl _ _)
      · as_aux_lemma =>
          intro a W2 K hb hdep hk hK
          replace hK : ∀ v w', (v = .agg #[.int .i64 t.self.id, .slice AC t.self.costs.length cC, .slice AU t.self.ups.length cU, .slice AI t.self.infos.length cI]) → Below W2.heap.size W2 w' → K (a.put (some 20) v) w' := hK
          have d19 : a.tmps.getD 19 undef = .pointer (some ⟨w.heap.size, 0, none⟩) := hdep ⟨4, .data⟩ (by simp) rfl
          have t0 := (hb.cell (p := ⟨w.heap.size, 0, none⟩) z0_w1).trans o_I_0
          have t1 := (hb.cell (p := ⟨w.heap.size, 1, none⟩) z0_w1).trans o_I_1
          have t2 := (hb.cell (p := ⟨w.heap.size, 2, none⟩) z0_w1).trans o_I_2
          have t3 := (hb.cell (p := ⟨w.heap.size, 3, none⟩) z0_w1).trans o_I_3
          have t4 := (hb.cell (p := ⟨w.heap.size, 4, none⟩) z0_w1).trans o_I_4
          have t5 := (hb.cell (p := ⟨w.heap.size, 5, none⟩) z0_w1).trans o_I_5
          have t6 := (hb.cell (p := ⟨w.heap.size, 6, none⟩) z0_w1).trans o_I_6
          clear hdep hk hb
          go_simp
          exact hK _ _ rfl (Below.refl _ _)
      · as_aux_lemma =>
          intro a W2 K hb hdep hk hK
          replace hK : ∀ v w', (v = .int .i64 k) → Below W2.heap.size W2 w' → K (a.put (some 21) v) w' := hK
          have d4 : a.tmps.getD 4 undef = .int .i64 k := hk 4 (by kernel_rfl)
          clear hdep hk hb
          go_simp
          exact hK _ _ rfl (Below.refl _ _)
      · as_aux_lemma =>
          intro a W2 K hb hdep hk hK
          replace hK : ∀ v w', (v = .int .i64 rl) → Below W2.heap.size W2 w' → K (a.put (some 22) v) w' := hK
          have d20 : a.tmps.getD 20 undef = .agg #[.int .i64 t.self.id, .slice AC t.self.costs.length cC, .slice AU t.self.ups.length cU, .slice AI t.self.infos.length cI] := hdep ⟨5, .data⟩ (by simp) rfl
          have d21 : a.tmps.getD 21 undef = .int .i64 k := hdep ⟨6, .data⟩ (by simp) rfl
          have hcall := cR.out W2 (I_w1.out.r.below hb).self
          clear hdep hk hb
          have q20 : a.tmps[20]?.getD undef = .agg #[.int .i64 t.self.id, .slice AC t.self.costs.length cC, .slice AU t.self.ups.length cU, .slice AI t.self.infos.length cI] := by simpa [Array.getD_eq_getD_getElem?] using d20
          clear d20
          have q21 : a.tmps[21]?.getD undef = .int .i64 k := by simpa [Array.getD_eq_getD_getElem?] using d21
          clear d21
          go_simp
          refine hcall.mono ?_
          rintro e w9 ⟨rfl, r2⟩
          exact hK _ _ rfl r2
      · as_aux_lemma =>
          intro a W2 K hb hdep hk hK
          replace hK : ∀ v w', (v = .bool ac) → Below W2.heap.size W2 w' → K (a.put (some 23) v) w' := hK
          have d22 : a.tmps.getD 22 undef = .int .i64 rl := hdep ⟨7, .data⟩ (by simp) rfl
          clear hdep hk hb
          have hcall := cA.out W2
          have q22 : a.tmps[22]?.getD undef = .int .i64 rl := by simpa [Array.getD_eq_getD_getElem?] using d22
          clear d22
          go_simp
          refine hcall.mono ?_
          rintro e w9 ⟨rfl, r2⟩
          exact hK _ _ rfl r2
      · as_aux_lemma =>
          intro a W2 K hb hdep hk hK
          replace hK : ∀ v w', (v = sv y.1 y.2) → Below W2.heap.size W2 w' → K (a.put (some 24) v) w' := hK
          have d16 : a.tmps.getD 16 undef = .agg #[.int .i64 x.1, .int .i64 x.2] := hdep ⟨1, .data⟩ (by simp) rfl
          have d18 : a.tmps.getD 18 undef = .int .i64 t.dl := hdep ⟨3, .data⟩ (by simp) rfl
          have d23 : a.tmps.getD 23 undef = .bool ac := hdep ⟨8, .data⟩ (by simp) rfl
          clear hdep hk hb
          have hcall := cP.out W2
          have q16 : a.tmps[16]?.getD undef = .agg #[.int .i64 x.1, .int .i64 x.2] := by simpa [Array.getD_eq_getD_getElem?] using d16
          clear d16
          have q18 : a.tmps[18]?.getD undef = .int .i64 t.dl := by simpa [Array.getD_eq_getD_getElem?] using d18
          clear d18
          have q23 : a.tmps[23]?.getD undef = .bool ac := by simpa [Array.getD_eq_getD_getElem?] using d23
          clear d23
          go_simp
          refine hcall.mono ?_
          rintro e w9 ⟨rfl, r2⟩
          exact hK _ _ rfl r2
      · as_aux_lemma =>
          intro a W2 K hb hdep hk hK
          replace hK : ∀ v w', (∃ b, v = .slice (some ⟨b, 0, none⟩) 1 1 ∧ Bx w' b 80 #[.int .i64 y.1, .int .i64 y.2]) → Below W2.heap.size W2 w' → K (a.put (some 25) v) w' := hK
          have d24 : a.tmps.getD 24 undef = sv y.1 y.2 := hdep ⟨9, .data⟩ (by simp) rfl
          clear hdep hk hb
          have q24 : a.tmps[24]?.getD undef = sv y.1 y.2 := by simpa [Array.getD_eq_getD_getElem?] using d24
          clear d24
          go_simp
          exact hK _ _ ⟨_, rfl, Bx.new _ _ _ rfl⟩ ((Below.refl _ _).alloc (Nat.le_refl _) _)
      intro a W3 hb3 hsp hk hn hdf
      obtain ⟨b9, h9, hblk⟩ := hsp 10 (by decide)
      have s0 : a.tmps.getD 0 undef = tv t AC cC AU cU AI cI (some ⟨bS, oS, none⟩) cS := hk 0 (by kernel_rfl)
      have s1 : a.tmps.getD 1 undef = .pointer (some ⟨w.heap.size, 0, none⟩) := hk 1 (by kernel_rfl)
      have s2 : a.tmps.getD 2 undef = .pointer (some ⟨w.heap.size + 1, 0, none⟩) := hk 2 (by kernel_rfl)
      have s3 : a.tmps.getD 3 undef = .slice A3 L.length c3 := hk 3 (by kernel_rfl)
      have s4 : a.tmps.getD 4 undef = .int .i64 k := hk 4 (by kernel_rfl)
      have s5 : a.tmps.getD 5 undef = .pointer (some ⟨wr.heap.size, 0, none⟩) := hk 5 (by kernel_rfl)
      have s6 : a.tmps.getD 6 undef = .slice (some ⟨w0.heap.size, 0, none⟩) 0 0 := hk 6 (by kernel_rfl)
      have s7 : a.tmps.getD 7 undef = .pointer (some ⟨w.heap.size, 4, none⟩) := hk 7 (by kernel_rfl)
      have s8 : a.tmps.getD 8 undef = .slice (some ⟨bS, oS, none⟩) t.states.length cS := hk 8 (by kernel_rfl)
      have s9 : a.tmps.getD 9 undef = .int .i64 t.states.length := hk 9 (by kernel_rfl)
      have s10 : a.tmps.getD 10 undef = .int .i64 k := hk 10 (by kernel_rfl)
      have s28 : a.tmps.getD 28 undef = undef := hk 28 (by kernel_rfl)
      have s29 : a.tmps.getD 29 undef = undef := hk 29 (by kernel_rfl)
      have s30 : a.tmps.getD 30 undef = undef := hk 30 (by kernel_rfl)
      have s15 : a.tmps.getD 15 undef = .slice A3 L.length c3 := hsp 0 (by decide)
      have s16 : a.tmps.getD 16 undef = .agg #[.int .i64 x.1, .int .i64 x.2] := hsp 1 (by decide)
      have s17 : a.tmps.getD 17 undef = .pointer (some ⟨w.heap.size, 6, none⟩) := hsp 2 (by decide)
      have s18 : a.tmps.getD 18 undef = .int .i64 t.dl := hsp 3 (by decide)
      have s19 : a.tmps.getD 19 undef = .pointer (some ⟨w.heap.size, 0, none⟩) := hsp 4 (by decide)
      have s20 : a.tmps.getD 20 undef = .agg #[.int .i64 t.self.id, .slice AC t.self.costs.length cC, .slice AU t.self.ups.length cU, .slice AI t.self.infos.length cI] := hsp 5 (by decide)
      have s21 : a.tmps.getD 21 undef = .int .i64 k := hsp 6 (by decide)
      have s22 : a.tmps.getD 22 undef = .int .i64 rl := hsp 7 (by decide)
      have s23 : a.tmps.getD 23 undef = .bool ac := hsp 8 (by decide)
      have s24 : a.tmps.getD 24 undef = sv y.1 y.2 := hsp 9 (by decide)
      have s25 : a.tmps.getD 25 undef = .slice (some ⟨b9, 0, none⟩) 1 1 := h9
      clear hk hsp h9
      obtain ⟨tm, df⟩ := a
      have e := arr_out tm 31 hn
      replace e : tm = #[tm.getD 0 undef, tm.getD 1 undef, tm.getD 2 undef, tm.getD 3 undef, tm.getD 4 undef, tm.getD 5 undef, tm.getD 6 undef, tm.getD 7 undef, tm.getD 8 undef, tm.getD 9 undef, tm.getD 10 undef, tm.getD 11 undef, tm.getD 12 undef, tm.getD 13 undef, tm.getD 14 undef, tm.getD 15 undef, tm.getD 16 undef, tm.getD 17 undef, tm.getD 18 undef, tm.getD 19 undef, tm.getD 20 undef, tm.getD 21 undef, tm.getD 22 undef, tm.getD 23 undef, tm.getD 24 undef, tm.getD 25 undef, tm.getD 26 undef, tm.getD 27 undef, tm.getD 28 undef, tm.getD 29 undef, tm.getD 30 undef] := e
      simp only at s0 s1 s2 s3 s4 s5 s6 s7 s8 s9 s10 s28 s29 s30 s15 s16 s17 s18 s19 s20 s21 s22 s23 s24 s25 hdf
      rw [s0, s1, s2, s3, s4, s5, s6, s7, s8, s9, s10, s28, s29, s30, s15, s16, s17, s18, s19, s20, s21, s22, s23, s24, s25] at e
      subst hdf
      clear s0 s1 s2 s3 s4 s5 s6 s7 s8 s9 s10 s28 s29 s30 s15 s16 s17 s18 s19 s20 s21 s22 s23 s24 s25 hn
      generalize tm.getD 11 undef = u11 at e
      generalize tm.getD 12 undef = u12 at e
      generalize tm.getD 13 undef = u13 at e
      generalize tm.getD 14 undef = u14 at e
      generalize tm.getD 26 undef = u26 at e
      generalize tm.getD 27 undef = u27 at e
      subst e
      simp only [List.drop_succ_cons, List.drop_zero]
      have hb5 := Lib.hid (bt (bt hb.out hbx) hb3)
      have hsl := Lib.hid (show Sl W3 2 (some ⟨b9, 0, none⟩) ([y].map sc) from bx_sl hblk rfl (by simp))
      clear hblk
      have own3 := Lib.hid (O_w1.out.below hb3)
      have hn1 : Hid ((L.map sc).length + ([y].map sc).length ≤ 1000000) := Lib.hid (by rw [List.length_map, List.length_map, hlenL.out]; simp; omega)
      have hvl : Hid ((L.map sc).length = L.length) := Lib.hid (List.length_map ..)
      have hB2 : Hid (w0.heap.size ≤ W3.heap.size) := Lib.hid hb5.out.size
      go_wp2_with (at_builtin; (refine wpList_append_sl rfl (.tmp 15) (.tmp 25) 27 rfl elP (by rfl) own3.out (by rfl) (by rfl) hsl.out (wholeP [y]) (fun h => by cases h) hn1.out hB2.out ?_); intro v' w4 own1 grow1 _)
      have b4 : Below w0.heap.size w0 w4 := hb5.out.grown grow1 hb5.out.size (fun j hj => (own3.out.lt j hj).1)
      go_roundw
      case rel => exact ⟨k + 1, L ++ [y], by omega, by go_num, hsn.out, by unfold OwnP; rw [List.map_append]; exact own1, b4⟩
      case measure => simp [intOf]; omega
    · obtain rfl : k = t.states.length := by omega
      obtain rfl : L = t.settle.states := hL
      have z0 := Ir.out.x.lt
      have o_I_0 := Ir.out.c (i := 0) rfl
      have f_I_0 := Ir.out.f 0
      have o_I_1 := Ir.out.c (i := 1) rfl
      have f_I_1 := Ir.out.f 1
      have o_I_2 := Ir.out.c (i := 2) rfl
      have f_I_2 := Ir.out.f 2
      have o_I_3 := Ir.out.c (i := 3) rfl
      have f_I_3 := Ir.out.f 3
      have o_I_4 := Ir.out.c (i := 4) rfl
      have f_I_4 := Ir.out.f 4
      have o_I_5 := Ir.out.c (i := 5) rfl
      have f_I_5 := Ir.out.f 5
      have o_I_6 := Ir.out.c (i := 6) rfl
      have f_I_6 := Ir.out.f 6
      have o_X_0 := Xr.out.c (i := 0) rfl
      have f_X_0 := Xr.out.f 0
      have o_X_1 := Xr.out.c (i := 1) rfl
      have f_X_1 := Xr.out.f 1
      have o_X_2 := Xr.out.c (i := 2) rfl
      have f_X_2 := Xr.out.f 2
      have o_X_3 := Xr.out.c (i := 3) rfl
      have f_X_3 := Xr.out.f 3
      have o_X_4 := Xr.out.c (i := 4) rfl
      have f_X_4 := Xr.out.f 4
      have o_X_5 := Xr.out.c (i := 5) rfl
      have f_X_5 := Xr.out.f 5
      have o_X_6 := Xr.out.c (i := 6) rfl
      have f_X_6 := Xr.out.f 6
      have zx := Xr.out.lt
      have hrow := Lib.hid (rowP hown)
      have hfar := Lib.hid (own_far hown)
      have hbw := Lib.hid (Ir.out.b)
      have hww : w.heap.size + 1 < w0.heap.size := X.out.lt
      replace hww := Lib.hid hww
      replace hown := Lib.hid hown
      replace hb := Lib.hid hb
      go_wp2_with fail
      refine bodyPost_ret (v := .agg #[.int .i64 t.self.id, .slice AC t.self.costs.length cC, .slice AU t.self.ups.length cU, .slice AI t.self.infos.length cI, .slice A3 t.settle.states.length c3, .int .i64 t.mx, .int .i64 t.dl]) (by simp [results, Try.results44, go_sem, o_X_0, o_X_1, o_X_2, o_X_3, o_X_4, o_X_5, o_X_6]) rfl ?_
      refine fin_r (c := 1) (n := w0.heap.size) (t' := t.settle) (wr := wr) (AC := AC) (cC := cC) (AU := AU) (cU := cU) (AI := AI) (cI := cI) (AS := A3) (cS := c3) (mk := fun v => v) ?hss hbw.out hww.out ?hv ?hr ?s1 ?off
      case hv => rfl
      case hss => repeat (first | with_reducible exact Sets.refl | with_reducible refine Sets.two ?_ | with_reducible refine Sets.one ?_)
      case hr => exact ⟨hR0.out.self.below hbw.out, hrow.out⟩
      case s1 => exact fun b hb => hR0.out.off hb
      case off => exact fun b hs hb => ⟨hs.c, hs.u, hs.n, fun _ a ha => by have := hfar.out a ha; omega⟩
end Go.Proofs.Ytidoaccidmmalaa.StpP

/-
  Contracts of footwayref12: know, aged.
-/
namespace Go.Proofs.Ytidoaccidmmalaa.StpP
open Go.Proofs.Ytidoaccidmmalaa.MacP (arr_out Wrote wp_region_ends outM)
open Go.RowKit Go.Sort Go.Proofs.Ytidoaccidmmalaa.SliceP Go.Proofs.Ytidoaccidmmalaa.BoxP Go.Proofs.Ytidoaccidmmalaa.VecP Go.Proofs.Ytidoaccidmmalaa.RoleP
open Go.Proofs.Ytidoaccidmmalaa.IntP (RowI SlI OwnI)
open Go.Proofs.Ytidoaccidmmalaa.BoolP (RowB SlB OwnB)
open Go.Proofs.Ytidoaccidmmalaa.PortP (okS roleS tickS sv)
set_option linter.unusedVariables false
set_option maxRecDepth 100000
def set6 (w : World) (b : Nat) (v0 v1 v2 v3 v4 v5 : Value) : World := (((((w.setCell ⟨b, 0, none⟩ v0).setCell ⟨b, 1, none⟩ v1).setCell ⟨b, 2, none⟩ v2).setCell ⟨b, 3, none⟩ v3).setCell ⟨b, 4, none⟩ v4).setCell ⟨b, 5, none⟩ v5
section
variable {w w0 : World} {b n : Nat} {T : TypeId} {v0 v1 v2 v3 v4 v5 u0 u1 u2 u3 u4 u5 : Value}
theorem set6_bx (h : Bx w b T #[u0, u1, u2, u3, u4, u5]) : Bx (set6 w b v0 v1 v2 v3 v4 v5) b T #[v0, v1, v2, v3, v4, v5] := (((((h.set 0 v0).set 1 v1).set 2 v2).set 3 v3).set 4 v4).set 5 v5
theorem set6_bel (h : Below n w0 w) (hb : n ≤ b) : Below n w0 (set6 w b v0 v1 v2 v3 v4 v5) := (((((h.setCell hb _).setCell hb _).setCell hb _).setCell hb _).setCell hb _).setCell hb _
end
set_option maxHeartbeats 4000000 in
theorem r_know {t : T} {AC : Option Addr} {cC : Nat} {AU : Option Addr} {cU : Nat} {AI : Option Addr} {cI : Nat} {AS : Option Addr} {cS : Nat} {w : World} {p : Nat} {x : N} (hlen : t.self.infos.length ≤ 8) (hR : TreeR w t AC cC AU cU AI cI AS cS) :
    Calls Try.prog 48 #[tv t AC cC AU cU AI cI AS cS, .int .i64 p, .agg #[.bool x.has, .int .i64 x.v.r, .int .i64 x.v.c, .int .i64 x.v.b, .int .i64 x.v.p, .int .i64 x.age]] w (RetT w (fun b => OffT b t AC AU AI AS) (t.know p x) (fun v => v)) := by
  obtain ⟨w0, hw0⟩ : ∃ W, W = ((w.alloc (.cells #[.int .i64 t.self.id, .slice AC t.self.costs.length cC, .slice AU t.self.ups.length cU, .slice AI t.self.infos.length cI, .slice AS t.states.length cS, .int .i64 t.mx, .int .i64 t.dl] 29)).alloc (.cells #[.bool x.has, .int .i64 x.v.r, .int .i64 x.v.c, .int .i64 x.v.b, .int .i64 x.v.p, .int .i64 x.age] 66)).alloc (.cells #[.int .i64 0, .slice none 0 0, .slice none 0 0, .slice none 0 0, .slice none 0 0, .int .i64 0, .int .i64 0] 29) := ⟨_, rfl⟩
  have bI : Below (w.alloc (.cells #[.int .i64 t.self.id, .slice AC t.self.costs.length cC, .slice AU t.self.ups.length cU, .slice AI t.self.infos.length cI, .slice AS t.states.length cS, .int .i64 t.mx, .int .i64 t.dl] 29)).heap.size (w.alloc (.cells #[.int .i64 t.self.id, .slice AC t.self.costs.length cC, .slice AU t.self.ups.length cU, .slice AI t.self.infos.length cI, .slice AS t.states.length cS, .int .i64 t.mx, .int .i64 t.dl] 29)) w0 := by
    rw [hw0]
    exact (((Below.refl _ _).alloc (by simp) _).alloc (by simp) _)
  have I := Lib.hid (show InT w w0 t AC cC AU cU AI cI AS cS from (InT.new hR).below bI)
  clear bI
  have Y := Lib.hid (show Bx w0 (w.heap.size + 1) 66 #[.bool x.has, .int .i64 x.v.r, .int .i64 x.v.c, .int .i64 x.v.b, .int .i64 x.v.p, .int .i64 x.age] by rw [hw0]; exact (Bx.new _ _ _ (by simp)).alloc _)
  have X := Lib.hid (show Bx w0 (w.heap.size + 2) 29 #[.int .i64 0, .slice none 0 0, .slice none 0 0, .slice none 0 0, .slice none 0 0, .int .i64 0, .int .i64 0] by rw [hw0]; exact Bx.new _ _ _ (by simp))
  have e0 := Lib.hid (show w.heap.size + 2 + 1 = w0.heap.size by rw [hw0]; simp)
  obtain ⟨w2, hw2⟩ : ∃ W, W = w0.alloc (.cells #[] 66) := ⟨_, rfl⟩
  have b2 : Below w0.heap.size w0 w2 := by rw [hw2]; exact (Below.refl _ _).alloc (Nat.le_refl _) _
  have O2 := Lib.hid (show OwnN w2 w0.heap.size (.slice (some ⟨w0.heap.size, 0, none⟩) 0 0) [] by rw [hw2]; exact own_lit0 w0 _ _ _ (Nat.le_refl _))
  have hR0 := Lib.hid hR
  clear hR
  go_enter Try.func48, Try.ntmps48
  go_upto_region 2 with fail
  rw [e0.out, ← hw0, ← hw2]
  have I2 := Lib.hid (I.out.below b2)
  have z2 := I2.out.x.lt
  have o_I_0 := I2.out.c (i := 0) rfl
  have o_I_1 := I2.out.c (i := 1) rfl
  have o_I_2 := I2.out.c (i := 2) rfl
  have o_I_3 := I2.out.c (i := 3) rfl
  have o_I_4 := I2.out.c (i := 4) rfl
  have o_I_5 := I2.out.c (i := 5) rfl
  have o_I_6 := I2.out.c (i := 6) rfl
  have B2 := Lib.hid b2
  clear hw0 hw2 b2
  go_wp2_with fail
  clear o_I_0 o_I_1 o_I_2 o_I_3 o_I_4 o_I_5 o_I_6 z2
  go_loopw [7, 15] (fun v3 i wr => ∃ (k : Nat) (L : List N), k ≤ t.self.infos.length ∧ i = .int .i64 k ∧ L = (t.self.infos.set p x).take k ∧ OwnN wr w0.heap.size v3 L ∧ Below w0.heap.size w0 wr) (fun _ i _ => t.self.infos.length - (intOf i).toNat)
  case atStart => exact ⟨0, [], by omega, rfl, by simp, O2.out, B2.out⟩
  case round =>
    clear I2 O2 B2
    obtain ⟨k, L, hk, rfl, hL, hown, hb⟩ := hrel
    obtain ⟨A3, c3, hv3⟩ := own_form hown
    subst hv3
    have Ir := Lib.hid (I.out.below hb)
    have Yr := Lib.hid (Y.out.below hb)
    have Xr := Lib.hid (X.out.below hb)
    by_cases hkn : k < t.self.infos.length
    · obtain ⟨bS, oS, rfl, hbS, q0, q1, q2, q3, q4, q5⟩ := SlN.at_ Ir.out.r.self.infos.sl (info_at (s := t.self) (p := k) hkn)
      obtain ⟨y, hy⟩ : ∃ y, t.self.info k = y := ⟨_, rfl⟩
      rw [hy] at q0 q1 q2 q3 q4 q5
      have hgi : t.self.infos[k]? = some y := by rw [← hy]; exact info_at hkn
      have hlenL := Lib.hid (show L.length = k by rw [hL, List.length_take, List.length_set]; omega)
      have hkl : (k : Int) < (t.self.infos.length : Int) := by omega
      have hsy : k ≠ p → L ++ [y] = (t.self.infos.set p x).take (k + 1) := fun h => by rw [List.take_add_one, List.getElem?_set_ne (Ne.symm h), hgi, hL]; rfl
      have hsx : k = p → L ++ [x] = (t.self.infos.set p x).take (k + 1) := fun h => by subst h; rw [List.take_add_one, List.getElem?_set_self hkn, hL]; rfl
      replace hsy := Lib.hid hsy
      replace hsx := Lib.hid hsx
      replace hL := Lib.hid hL
      replace hy := Lib.hid hy
      replace hgi := Lib.hid hgi
      replace hown := Lib.hid hown
      replace hb := Lib.hid hb
      have zr := Ir.out.x.lt
      go_upto_region 5 with fail
      have hown9 := hown
      obtain ⟨w1, hw1⟩ : ∃ W, W = wr.alloc (.cells #[.bool y.has, .int .i64 y.v.r, .int .i64 y.v.c, .int .i64 y.v.b, .int .i64 y.v.p, .int .i64 y.age] 66) := ⟨_, rfl⟩
      have bw1 : Below wr.heap.size wr w1 := by rw [hw1]; exact (Below.refl _ _).alloc (Nat.le_refl _) _
      have Xw1 : Bx w1 wr.heap.size 66 #[.bool y.has, .int .i64 y.v.r, .int .i64 y.v.c, .int .i64 y.v.b, .int .i64 y.v.p, .int .i64 y.age] := by rw [hw1]; exact Bx.new _ _ _ rfl
      rw [← hw1]
      clear hw1
      have I_w1 := Lib.hid (Ir.out.below bw1)
      have Y_w1 := Lib.hid (Yr.out.below bw1)
      have O_w1 := Lib.hid (hown.out.below bw1)
      have N_w1 := Lib.hid (Xw1)
      have z0_w1 : w.heap.size < w1.heap.size := Nat.lt_of_lt_of_le zr bw1.size
      clear Ir Yr hown zr
      have z1_w1 : wr.heap.size < w1.heap.size := Xw1.lt
      clear Xw1
      clear q0 q1 q2 q3 q4 q5 hbS
      by_cases hkp : k = p
      · have hkp' : ((k : Int) == (p : Int)) = true := by rw [hkp]; exact beq_self_eq_true _
        replace hkp := Lib.hid hkp
        have o_N_0 := N_w1.out.c (i := 0) rfl
        have o_N_1 := N_w1.out.c (i := 1) rfl
        have o_N_2 := N_w1.out.c (i := 2) rfl
        have o_N_3 := N_w1.out.c (i := 3) rfl
        have o_N_4 := N_w1.out.c (i := 4) rfl
        have o_N_5 := N_w1.out.c (i := 5) rfl
        have p_N_0 := N_w1.out.f 0
        have p_N_1 := N_w1.out.f 1
        have p_N_2 := N_w1.out.f 2
        have p_N_3 := N_w1.out.f 3
        have p_N_4 := N_w1.out.f 4
        have p_N_5 := N_w1.out.f 5
        have o_Y_0 := Y_w1.out.c (i := 0) rfl
        have o_Y_1 := Y_w1.out.c (i := 1) rfl
        have o_Y_2 := Y_w1.out.c (i := 2) rfl
        have o_Y_3 := Y_w1.out.c (i := 3) rfl
        have o_Y_4 := Y_w1.out.c (i := 4) rfl
        have o_Y_5 := Y_w1.out.c (i := 5) rfl
        go_upto_region 7 with fail
        clear o_N_0 o_N_1 o_N_2 o_N_3 o_N_4 o_N_5 p_N_0 p_N_1 p_N_2 p_N_3 p_N_4 p_N_5 o_Y_0 o_Y_1 o_Y_2 o_Y_3 o_Y_4 o_Y_5
        obtain ⟨w7, hw7⟩ : ∃ W, W = set6 w1 wr.heap.size (.bool x.has) (.int .i64 x.v.r) (.int .i64 x.v.c) (.int .i64 x.v.b) (.int .i64 x.v.p) (.int .i64 x.age) := ⟨_, rfl⟩
        have N7 := Lib.hid (show Bx w7 wr.heap.size 66 #[.bool x.has, .int .i64 x.v.r, .int .i64 x.v.c, .int .i64 x.v.b, .int .i64 x.v.p, .int .i64 x.age] by rw [hw7]; exact set6_bx N_w1.out)
        have b7 : Below wr.heap.size wr w7 := by rw [hw7]; exact set6_bel bw1 (Nat.le_refl _)
        unfold set6 at hw7
        rw [← hw7]
        clear hw7
        have own7 := Lib.hid (hown9.out.below b7)
        have z7 := N7.out.lt
        have o_N_0 := N7.out.c (i := 0) rfl
        have o_N_1 := N7.out.c (i := 1) rfl
        have o_N_2 := N7.out.c (i := 2) rfl
        have o_N_3 := N7.out.c (i := 3) rfl
        have o_N_4 := N7.out.c (i := 4) rfl
        have o_N_5 := N7.out.c (i := 5) rfl
        have hbx : Below wr.heap.size wr w7 := b7
        obtain ⟨w8, hw8⟩ : ∃ W, W = w7.alloc (.cells #[.bool x.has, .int .i64 x.v.r, .int .i64 x.v.c, .int .i64 x.v.b, .int .i64 x.v.p, .int .i64 x.age] 66) := ⟨_, rfl⟩
        have b8 : Below w7.heap.size w7 w8 := by rw [hw8]; exact (Below.refl _ _).alloc (Nat.le_refl _) _
        have hsl := Lib.hid (show Sl w8 6 (some ⟨w7.heap.size, 0, none⟩) ([x].map N.cells) from bx_sl (T := 66) (vals := #[.bool x.has, .int .i64 x.v.r, .int .i64 x.v.c, .int .i64 x.v.b, .int .i64 x.v.p, .int .i64 x.age]) (by rw [hw8]; exact Bx.new _ _ _ rfl) rfl (by intro c hc; simp at hc; subst hc; rfl))
        have own8 := Lib.hid (own7.out.below b8)
        have hb8 := Lib.hid (bt (bt hb.out hbx) b8)
        have hn1 : Hid ((L.map N.cells).length + ([x].map N.cells).length ≤ 1000000) := Lib.hid (by rw [List.length_map, List.length_map, hlenL.out]; simp; omega)
        have hvl : Hid ((L.map N.cells).length = L.length) := Lib.hid (List.length_map ..)
        have hB2 : Hid (w0.heap.size ≤ w8.heap.size) := Lib.hid hb8.out.size
        clear b8 hbx
        go_wp2_with (at_builtin; rw [← hw8]; (refine wpList_append_sl rfl (.tmp 24) (.tmp 26) 24 rfl elN (by rfl) own8.out (by rfl) (by rfl) hsl.out (wholeN [x]) (fun h => by cases h) hn1.out hB2.out ?_); intro v' w4 own1 grow1 _)
        have b4 : Below w0.heap.size w0 w4 := hb8.out.grown grow1 hb8.out.size (fun j hj => (own8.out.lt j hj).1)
        go_roundw
        case rel => exact ⟨k + 1, L ++ [x], by omega, by go_num, hsx.out hkp.out, by unfold OwnN; rw [List.map_append]; exact own1, b4⟩
        case measure => simp [intOf]; omega
      · have hkp' : ((k : Int) == (p : Int)) = false := beq_false_of_ne (by omega)
        replace hkp := Lib.hid hkp
        go_upto_region 7 with fail
        have o_N_0 := N_w1.out.c (i := 0) rfl
        have o_N_1 := N_w1.out.c (i := 1) rfl
        have o_N_2 := N_w1.out.c (i := 2) rfl
        have o_N_3 := N_w1.out.c (i := 3) rfl
        have o_N_4 := N_w1.out.c (i := 4) rfl
        have o_N_5 := N_w1.out.c (i := 5) rfl
        have hbx : Below wr.heap.size wr w1 := bw1
        obtain ⟨w8, hw8⟩ : ∃ W, W = w1.alloc (.cells #[.bool y.has, .int .i64 y.v.r, .int .i64 y.v.c, .int .i64 y.v.b, .int .i64 y.v.p, .int .i64 y.age] 66) := ⟨_, rfl⟩
        have b8 : Below w1.heap.size w1 w8 := by rw [hw8]; exact (Below.refl _ _).alloc (Nat.le_refl _) _
        have hsl := Lib.hid (show Sl w8 6 (some ⟨w1.heap.size, 0, none⟩) ([y].map N.cells) from bx_sl (T := 66) (vals := #[.bool y.has, .int .i64 y.v.r, .int .i64 y.v.c, .int .i64 y.v.b, .int .i64 y.v.p, .int .i64 y.age]) (by rw [hw8]; exact Bx.new _ _ _ rfl) rfl (by intro c hc; simp at hc; subst hc; rfl))
        have own8 := Lib.hid (O_w1.out.below b8)
        have hb8 := Lib.hid (bt (bt hb.out hbx) b8)
        have hn1 : Hid ((L.map N.cells).length + ([y].map N.cells).length ≤ 1000000) := Lib.hid (by rw [List.length_map, List.length_map, hlenL.out]; simp; omega)
        have hvl : Hid ((L.map N.cells).length = L.length) := Lib.hid (List.length_map ..)
        have hB2 : Hid (w0.heap.size ≤ w8.heap.size) := Lib.hid hb8.out.size
        clear b8 hbx
        go_wp2_with (at_builtin; rw [← hw8]; (refine wpList_append_sl rfl (.tmp 24) (.tmp 26) 24 rfl elN (by rfl) own8.out (by rfl) (by rfl) hsl.out (wholeN [y]) (fun h => by cases h) hn1.out hB2.out ?_); intro v' w4 own1 grow1 _)
        have b4 : Below w0.heap.size w0 w4 := hb8.out.grown grow1 hb8.out.size (fun j hj => (own8.out.lt j hj).1)
        go_roundw
        case rel => exact ⟨k + 1, L ++ [y], by omega, by go_num, hsy.out hkp.out, by unfold OwnN; rw [List.map_append]; exact own1, b4⟩
        case measure => simp [intOf]; omega
    · obtain rfl : k = t.self.infos.length := by omega
      obtain rfl : L = (t.know p x).self.infos := by rw [hL]; unfold T.know StpP.know; rw [List.take_of_length_le (by rw [List.length_set]; exact Nat.le_refl _)]
      clear hL
      have hrow := Lib.hid (rowN hown)
      have z0 := Ir.out.x.lt
      have o_I_0 := Ir.out.c (i := 0) rfl
      have f_I_0 := Ir.out.f 0
      have o_I_1 := Ir.out.c (i := 1) rfl
      have f_I_1 := Ir.out.f 1
      have o_I_2 := Ir.out.c (i := 2) rfl
      have f_I_2 := Ir.out.f 2
      have o_I_3 := Ir.out.c (i := 3) rfl
      have f_I_3 := Ir.out.f 3
      have o_I_4 := Ir.out.c (i := 4) rfl
      have f_I_4 := Ir.out.f 4
      have o_I_5 := Ir.out.c (i := 5) rfl
      have f_I_5 := Ir.out.f 5
      have o_I_6 := Ir.out.c (i := 6) rfl
      have f_I_6 := Ir.out.f 6
      have o_X_0 := Xr.out.c (i := 0) rfl
      have f_X_0 := Xr.out.f 0
      have o_X_1 := Xr.out.c (i := 1) rfl
      have f_X_1 := Xr.out.f 1
      have o_X_2 := Xr.out.c (i := 2) rfl
      have f_X_2 := Xr.out.f 2
      have o_X_3 := Xr.out.c (i := 3) rfl
      have f_X_3 := Xr.out.f 3
      have o_X_4 := Xr.out.c (i := 4) rfl
      have f_X_4 := Xr.out.f 4
      have o_X_5 := Xr.out.c (i := 5) rfl
      have f_X_5 := Xr.out.f 5
      have o_X_6 := Xr.out.c (i := 6) rfl
      have f_X_6 := Xr.out.f 6
      have zx := Xr.out.lt
      have hfar := Lib.hid (own_far hown)
      have hbw := Lib.hid (Ir.out.b)
      have hww : w.heap.size + 2 < w0.heap.size := X.out.lt
      replace hww := Lib.hid hww
      replace hown := Lib.hid hown
      replace hb := Lib.hid hb
      go_wp2_with fail
      refine bodyPost_ret (v := .agg #[.int .i64 t.self.id, .slice AC t.self.costs.length cC, .slice AU t.self.ups.length cU, .slice A3 (t.know p x).self.infos.length c3, .slice AS t.states.length cS, .int .i64 t.mx, .int .i64 t.dl]) (by simp [results, Try.results48, go_sem, o_X_0, o_X_1, o_X_2, o_X_3, o_X_4, o_X_5, o_X_6]) rfl ?_
      refine fin_r (c := 2) (n := w0.heap.size) (t' := t.know p x) (wr := wr) (AC := AC) (cC := cC) (AU := AU) (cU := cU) (AI := A3) (cI := c3) (AS := AS) (cS := cS) (mk := fun v => v) ?hss hbw.out hww.out ?hv ?hr ?s1 ?off
      case hv => rfl
      case hss => repeat (first | with_reducible exact Sets.refl | with_reducible refine Sets.two ?_ | with_reducible refine Sets.one ?_)
      case hr => exact ⟨⟨(hR0.out.self.below hbw.out).costs, (hR0.out.self.below hbw.out).ups, hrow.out⟩, hR0.out.sts.below hbw.out⟩
      case s1 => exact fun b hb => hR0.out.off hb
      case off => exact fun b hs hb => ⟨hs.c, hs.u, fun _ a ha => by have := hfar.out a ha; omega, hs.s⟩
set_option maxHeartbeats 4000000 in
theorem r_aged {t : T} {AC : Option Addr} {cC : Nat} {AU : Option Addr} {cU : Nat} {AI : Option Addr} {cI : Nat} {AS : Option Addr} {cS : Nat} {w : World} (hok : t.self.ok = true) (hR : TreeR w t AC cC AU cU AI cI AS cS) :
    Calls Try.prog 55 #[tv t AC cC AU cU AI cI AS cS] w (RetT w (fun b => OffT b t AC AU AI AS) t.aged (fun v => v)) := by
  obtain ⟨w0, hw0⟩ : ∃ W, W = (w.alloc (.cells #[.int .i64 t.self.id, .slice AC t.self.costs.length cC, .slice AU t.self.ups.length cU, .slice AI t.self.infos.length cI, .slice AS t.states.length cS, .int .i64 t.mx, .int .i64 t.dl] 29)).alloc (.cells #[.int .i64 0, .slice none 0 0, .slice none 0 0, .slice none 0 0, .slice none 0 0, .int .i64 0, .int .i64 0] 29) := ⟨_, rfl⟩
  have bI : Below (w.alloc (.cells #[.int .i64 t.self.id, .slice AC t.self.costs.length cC, .slice AU t.self.ups.length cU, .slice AI t.self.infos.length cI, .slice AS t.states.length cS, .int .i64 t.mx, .int .i64 t.dl] 29)).heap.size (w.alloc (.cells #[.int .i64 t.self.id, .slice AC t.self.costs.length cC, .slice AU t.self.ups.length cU, .slice AI t.self.infos.length cI, .slice AS t.states.length cS, .int .i64 t.mx, .int .i64 t.dl] 29)) w0 := by
    rw [hw0]
    exact ((Below.refl _ _).alloc (by simp) _)
  have I := Lib.hid (show InT w w0 t AC cC AU cU AI cI AS cS from (InT.new hR).below bI)
  clear bI
  have X := Lib.hid (show Bx w0 (w.heap.size + 1) 29 #[.int .i64 0, .slice none 0 0, .slice none 0 0, .slice none 0 0, .slice none 0 0, .int .i64 0, .int .i64 0] by rw [hw0]; exact Bx.new _ _ _ (by simp))
  have e0 := Lib.hid (show w.heap.size + 1 + 1 = w0.heap.size by rw [hw0]; simp)
  obtain ⟨w2, hw2⟩ : ∃ W, W = w0.alloc (.cells #[] 66) := ⟨_, rfl⟩
  have b2 : Below w0.heap.size w0 w2 := by rw [hw2]; exact (Below.refl _ _).alloc (Nat.le_refl _) _
  have O2 := Lib.hid (show OwnN w2 w0.heap.size (.slice (some ⟨w0.heap.size, 0, none⟩) 0 0) [] by rw [hw2]; exact own_lit0 w0 _ _ _ (Nat.le_refl _))
  have hR0 := Lib.hid hR
  have hlen : t.self.infos.length ≤ 8 := by have := head_iff.1 (ok_head hok); omega
  have hag := Lib.hid (show ∀ p, p < t.self.infos.length → 0 ≤ (t.self.info p).age ∧ (t.self.info p).age ≤ 255 from fun p hp => (ok_info hok (by have := head_iff.1 (ok_head hok); omega)).1)
  clear hR hok
  go_enter Try.func55, Try.ntmps55
  go_upto_region 2 with fail
  rw [e0.out, ← hw0, ← hw2]
  have I2 := Lib.hid (I.out.below b2)
  have z2 := I2.out.x.lt
  have o_I_0 := I2.out.c (i := 0) rfl
  have o_I_1 := I2.out.c (i := 1) rfl
  have o_I_2 := I2.out.c (i := 2) rfl
  have o_I_3 := I2.out.c (i := 3) rfl
  have o_I_4 := I2.out.c (i := 4) rfl
  have o_I_5 := I2.out.c (i := 5) rfl
  have o_I_6 := I2.out.c (i := 6) rfl
  have B2 := Lib.hid b2
  clear hw0 hw2 b2
  go_wp2_with fail
  clear o_I_0 o_I_1 o_I_2 o_I_3 o_I_4 o_I_5 o_I_6 z2
  go_loopw [3, 11] (fun v3 i wr => ∃ (k : Nat) (L : List N), k ≤ t.self.infos.length ∧ i = .int .i64 k ∧ L = (t.self.infos.map (aged t.mx)).take k ∧ OwnN wr w0.heap.size v3 L ∧ Below w0.heap.size w0 wr) (fun _ i _ => t.self.infos.length - (intOf i).toNat)
  case atStart => exact ⟨0, [], by omega, rfl, by simp, O2.out, B2.out⟩
  case round =>
    clear I2 O2 B2
    obtain ⟨k, L, hk, rfl, hL, hown, hb⟩ := hrel
    obtain ⟨A3, c3, hv3⟩ := own_form hown
    subst hv3
    have Ir := Lib.hid (I.out.below hb)
    have Xr := Lib.hid (X.out.below hb)
    by_cases hkn : k < t.self.infos.length
    · obtain ⟨bS, oS, rfl, hbS, q0, q1, q2, q3, q4, q5⟩ := SlN.at_ Ir.out.r.self.infos.sl (info_at (s := t.self) (p := k) hkn)
      obtain ⟨hg0, hg1⟩ := hag.out k hkn
      obtain ⟨y, hy⟩ : ∃ y, t.self.info k = y := ⟨_, rfl⟩
      rw [hy] at q0 q1 q2 q3 q4 q5 hg0 hg1
      have hgi : t.self.infos[k]? = some y := by rw [← hy]; exact info_at hkn
      have hlenL := Lib.hid (show L.length = k by rw [hL, List.length_take, List.length_map]; omega)
      have hkl : (k : Int) < (t.self.infos.length : Int) := by omega
      obtain ⟨z, hz⟩ : ∃ z, aged t.mx y = z := ⟨_, rfl⟩
      have hs := Lib.hid (show L ++ [z] = (t.self.infos.map (aged t.mx)).take (k + 1) by rw [List.take_add_one, List.getElem?_map, hgi, hL, ← hz]; rfl)
      replace hL := Lib.hid hL
      replace hy := Lib.hid hy
      replace hgi := Lib.hid hgi
      replace hown := Lib.hid hown
      replace hb := Lib.hid hb
      have hown9 := hown
      have Ir9 := Ir
      have zr := Ir.out.x.lt
      obtain ⟨yh, yv, ya⟩ := y
      simp only at q0 q1 q2 q3 q4 q5 hg0 hg1
      go_upto_region 5 with fail
      obtain ⟨w1, hw1⟩ : ∃ W, W = wr.alloc (.cells #[.bool yh, .int .i64 yv.r, .int .i64 yv.c, .int .i64 yv.b, .int .i64 yv.p, .int .i64 ya] 66) := ⟨_, rfl⟩
      have bw1 : Below wr.heap.size wr w1 := by rw [hw1]; exact (Below.refl _ _).alloc (Nat.le_refl _) _
      have Xw1 : Bx w1 wr.heap.size 66 #[.bool yh, .int .i64 yv.r, .int .i64 yv.c, .int .i64 yv.b, .int .i64 yv.p, .int .i64 ya] := by rw [hw1]; exact Bx.new _ _ _ rfl
      rw [← hw1]
      clear hw1
      have I_w1 := Lib.hid (Ir.out.below bw1)
      have O_w1 := Lib.hid (hown.out.below bw1)
      have N_w1 := Lib.hid (Xw1)
      have z0_w1 : w.heap.size < w1.heap.size := Nat.lt_of_lt_of_le zr bw1.size
      clear Ir hown zr
      have z1_w1 : wr.heap.size < w1.heap.size := Xw1.lt
      clear Xw1
      clear q0 q1 q2 q3 q4 q5 hbS
      cases yh with
      | false =>
        unfold aged older at hz
        simp only [Bool.false_eq_true, if_false] at hz
        by_cases hm : t.mx ≤ ya
        · rw [if_pos hm] at hz
          obtain rfl := hz
          have o_I_0 := I_w1.out.c (i := 0) rfl
          have o_I_1 := I_w1.out.c (i := 1) rfl
          have o_I_2 := I_w1.out.c (i := 2) rfl
          have o_I_3 := I_w1.out.c (i := 3) rfl
          have o_I_4 := I_w1.out.c (i := 4) rfl
          have o_I_5 := I_w1.out.c (i := 5) rfl
          have o_I_6 := I_w1.out.c (i := 6) rfl
          have o_N_0 := N_w1.out.c (i := 0) rfl
          have o_N_1 := N_w1.out.c (i := 1) rfl
          have o_N_2 := N_w1.out.c (i := 2) rfl
          have o_N_3 := N_w1.out.c (i := 3) rfl
          have o_N_4 := N_w1.out.c (i := 4) rfl
          have o_N_5 := N_w1.out.c (i := 5) rfl
          have p_N_0 := N_w1.out.f 0
          have p_N_1 := N_w1.out.f 1
          have p_N_2 := N_w1.out.f 2
          have p_N_3 := N_w1.out.f 3
          have p_N_4 := N_w1.out.f 4
          have p_N_5 := N_w1.out.f 5
          go_upto_region 9 with fail
          clear o_I_0 o_I_1 o_I_2 o_I_3 o_I_4 o_I_5 o_I_6 o_N_0 o_N_1 o_N_2 o_N_3 o_N_4 o_N_5 p_N_0 p_N_1 p_N_2 p_N_3 p_N_4 p_N_5
          obtain ⟨w7, hw7⟩ : ∃ W, W = set6 w1 wr.heap.size (.bool false) (.int .i64 0) (.int .i64 0) (.int .i64 0) (.int .i64 0) (.int .i64 0) := ⟨_, rfl⟩
          have N7 := Lib.hid (show Bx w7 wr.heap.size 66 #[.bool false, .int .i64 0, .int .i64 0, .int .i64 0, .int .i64 0, .int .i64 0] by rw [hw7]; exact set6_bx N_w1.out)
          have b7 : Below wr.heap.size wr w7 := by rw [hw7]; exact set6_bel bw1 (Nat.le_refl _)
          unfold set6 at hw7
          rw [← hw7]
          clear hw7
          have own7 := Lib.hid (hown9.out.below b7)
          have z7 := N7.out.lt
          have o_N_0 := N7.out.c (i := 0) rfl
          have o_N_1 := N7.out.c (i := 1) rfl
          have o_N_2 := N7.out.c (i := 2) rfl
          have o_N_3 := N7.out.c (i := 3) rfl
          have o_N_4 := N7.out.c (i := 4) rfl
          have o_N_5 := N7.out.c (i := 5) rfl
          have hbx : Below wr.heap.size wr w7 := b7
          obtain ⟨w8, hw8⟩ : ∃ W, W = w7.alloc (.cells #[.bool false, .int .i64 0, .int .i64 0, .int .i64 0, .int .i64 0, .int .i64 0] 66) := ⟨_, rfl⟩
          have b8 : Below w7.heap.size w7 w8 := by rw [hw8]; exact (Below.refl _ _).alloc (Nat.le_refl _) _
          have hsl := Lib.hid (show Sl w8 6 (some ⟨w7.heap.size, 0, none⟩) ([N0].map N.cells) from bx_sl (T := 66) (vals := #[.bool false, .int .i64 0, .int .i64 0, .int .i64 0, .int .i64 0, .int .i64 0]) (by rw [hw8]; exact Bx.new _ _ _ rfl) rfl (by intro c hc; simp at hc; subst hc; rfl))
          have own8 := Lib.hid (own7.out.below b8)
          have hb8 := Lib.hid (bt (bt hb.out hbx) b8)
          have hn1 : Hid ((L.map N.cells).length + ([N0].map N.cells).length ≤ 1000000) := Lib.hid (by rw [List.length_map, List.length_map, hlenL.out]; simp; omega)
          have hvl : Hid ((L.map N.cells).length = L.length) := Lib.hid (List.length_map ..)
          have hB2 : Hid (w0.heap.size ≤ w8.heap.size) := Lib.hid hb8.out.size
          clear b8 hbx
          go_wp2_with (at_builtin; rw [← hw8]; (refine wpList_append_sl rfl (.tmp 27) (.tmp 29) 24 rfl elN (by rfl) own8.out (by rfl) (by rfl) hsl.out (wholeN [N0]) (fun h => by cases h) hn1.out hB2.out ?_); intro v' w4 own1 grow1 _)
          have b4 : Below w0.heap.size w0 w4 := hb8.out.grown grow1 hb8.out.size (fun j hj => (own8.out.lt j hj).1)
          go_roundw
          case rel => exact ⟨k + 1, L ++ [N0], by omega, by go_num, hs.out, by unfold OwnN; rw [List.map_append]; exact own1, b4⟩
          case measure => simp [intOf]; omega
        · rw [if_neg hm] at hz
          obtain rfl := hz
          have o_I_0 := I_w1.out.c (i := 0) rfl
          have o_I_1 := I_w1.out.c (i := 1) rfl
          have o_I_2 := I_w1.out.c (i := 2) rfl
          have o_I_3 := I_w1.out.c (i := 3) rfl
          have o_I_4 := I_w1.out.c (i := 4) rfl
          have o_I_5 := I_w1.out.c (i := 5) rfl
          have o_I_6 := I_w1.out.c (i := 6) rfl
          have o_N_0 := N_w1.out.c (i := 0) rfl
          have o_N_1 := N_w1.out.c (i := 1) rfl
          have o_N_2 := N_w1.out.c (i := 2) rfl
          have o_N_3 := N_w1.out.c (i := 3) rfl
          have o_N_4 := N_w1.out.c (i := 4) rfl
          have o_N_5 := N_w1.out.c (i := 5) rfl
          have p_N_0 := N_w1.out.f 0
          have p_N_1 := N_w1.out.f 1
          have p_N_2 := N_w1.out.f 2
          have p_N_3 := N_w1.out.f 3
          have p_N_4 := N_w1.out.f 4
          have p_N_5 := N_w1.out.f 5
          go_upto_region 9 with fail
          clear o_I_0 o_I_1 o_I_2 o_I_3 o_I_4 o_I_5 o_I_6 o_N_0 o_N_1 o_N_2 o_N_3 o_N_4 o_N_5 p_N_0 p_N_1 p_N_2 p_N_3 p_N_4 p_N_5
          have o_N_0 := N_w1.out.c (i := 0) rfl
          have o_N_1 := N_w1.out.c (i := 1) rfl
          have o_N_2 := N_w1.out.c (i := 2) rfl
          have o_N_3 := N_w1.out.c (i := 3) rfl
          have o_N_4 := N_w1.out.c (i := 4) rfl
          have o_N_5 := N_w1.out.c (i := 5) rfl
          have hbx : Below wr.heap.size wr w1 := bw1
          obtain ⟨w8, hw8⟩ : ∃ W, W = w1.alloc (.cells #[.bool false, .int .i64 yv.r, .int .i64 yv.c, .int .i64 yv.b, .int .i64 yv.p, .int .i64 ya] 66) := ⟨_, rfl⟩
          have b8 : Below w1.heap.size w1 w8 := by rw [hw8]; exact (Below.refl _ _).alloc (Nat.le_refl _) _
          have hsl := Lib.hid (show Sl w8 6 (some ⟨w1.heap.size, 0, none⟩) ([⟨false, yv, ya⟩].map N.cells) from bx_sl (T := 66) (vals := #[.bool false, .int .i64 yv.r, .int .i64 yv.c, .int .i64 yv.b, .int .i64 yv.p, .int .i64 ya]) (by rw [hw8]; exact Bx.new _ _ _ rfl) rfl (by intro c hc; simp at hc; subst hc; rfl))
          have own8 := Lib.hid (O_w1.out.below b8)
          have hb8 := Lib.hid (bt (bt hb.out hbx) b8)
          have hn1 : Hid ((L.map N.cells).length + ([⟨false, yv, ya⟩].map N.cells).length ≤ 1000000) := Lib.hid (by rw [List.length_map, List.length_map, hlenL.out]; simp; omega)
          have hvl : Hid ((L.map N.cells).length = L.length) := Lib.hid (List.length_map ..)
          have hB2 : Hid (w0.heap.size ≤ w8.heap.size) := Lib.hid hb8.out.size
          clear b8 hbx
          go_wp2_with (at_builtin; rw [← hw8]; (refine wpList_append_sl rfl (.tmp 27) (.tmp 29) 24 rfl elN (by rfl) own8.out (by rfl) (by rfl) hsl.out (wholeN [⟨false, yv, ya⟩]) (fun h => by cases h) hn1.out hB2.out ?_); intro v' w4 own1 grow1 _)
          have b4 : Below w0.heap.size w0 w4 := hb8.out.grown grow1 hb8.out.size (fun j hj => (own8.out.lt j hj).1)
          go_roundw
          case rel => exact ⟨k + 1, L ++ [⟨false, yv, ya⟩], by omega, by go_num, hs.out, by unfold OwnN; rw [List.map_append]; exact own1, b4⟩
          case measure => simp [intOf]; omega
      | true =>
        unfold aged older at hz
        simp only [if_true] at hz
        by_cases hm : t.mx ≤ (ya + 1)
        · rw [if_pos hm] at hz
          obtain rfl := hz
          have o_I_0 := I_w1.out.c (i := 0) rfl
          have o_I_1 := I_w1.out.c (i := 1) rfl
          have o_I_2 := I_w1.out.c (i := 2) rfl
          have o_I_3 := I_w1.out.c (i := 3) rfl
          have o_I_4 := I_w1.out.c (i := 4) rfl
          have o_I_5 := I_w1.out.c (i := 5) rfl
          have o_I_6 := I_w1.out.c (i := 6) rfl
          have o_N_0 := N_w1.out.c (i := 0) rfl
          have o_N_1 := N_w1.out.c (i := 1) rfl
          have o_N_2 := N_w1.out.c (i := 2) rfl
          have o_N_3 := N_w1.out.c (i := 3) rfl
          have o_N_4 := N_w1.out.c (i := 4) rfl
          have o_N_5 := N_w1.out.c (i := 5) rfl
          have p_N_0 := N_w1.out.f 0
          have p_N_1 := N_w1.out.f 1
          have p_N_2 := N_w1.out.f 2
          have p_N_3 := N_w1.out.f 3
          have p_N_4 := N_w1.out.f 4
          have p_N_5 := N_w1.out.f 5
          go_upto_region 7 with fail
          clear o_I_0 o_I_1 o_I_2 o_I_3 o_I_4 o_I_5 o_I_6 o_N_0 o_N_1 o_N_2 o_N_3 o_N_4 o_N_5 p_N_0 p_N_1 p_N_2 p_N_3 p_N_4 p_N_5
          obtain ⟨w6, hw6⟩ : ∃ W, W = w1.setCell ⟨wr.heap.size, 5, none⟩ (.int .i64 (ya + 1)) := ⟨_, rfl⟩
          have N6 := Lib.hid (show Bx w6 wr.heap.size 66 #[.bool true, .int .i64 yv.r, .int .i64 yv.c, .int .i64 yv.b, .int .i64 yv.p, .int .i64 (ya + 1)] by rw [hw6]; exact N_w1.out.set 5 _)
          have b6 : Below wr.heap.size wr w6 := by rw [hw6]; exact bw1.setCell (Nat.le_refl _) _
          rw [← hw6]
          clear hw6
          have own6 := Lib.hid (hown9.out.below b6)
          have I6 := Lib.hid (Ir9.out.below b6)
          have z6 := N6.out.lt
          have zi6 := I6.out.x.lt
          have o_I_0 := I6.out.c (i := 0) rfl
          have o_I_1 := I6.out.c (i := 1) rfl
          have o_I_2 := I6.out.c (i := 2) rfl
          have o_I_3 := I6.out.c (i := 3) rfl
          have o_I_4 := I6.out.c (i := 4) rfl
          have o_I_5 := I6.out.c (i := 5) rfl
          have o_I_6 := I6.out.c (i := 6) rfl
          have o_N_0 := N6.out.c (i := 0) rfl
          have o_N_1 := N6.out.c (i := 1) rfl
          have o_N_2 := N6.out.c (i := 2) rfl
          have o_N_3 := N6.out.c (i := 3) rfl
          have o_N_4 := N6.out.c (i := 4) rfl
          have o_N_5 := N6.out.c (i := 5) rfl
          have p_N_0 := N6.out.f 0
          have p_N_1 := N6.out.f 1
          have p_N_2 := N6.out.f 2
          have p_N_3 := N6.out.f 3
          have p_N_4 := N6.out.f 4
          have p_N_5 := N6.out.f 5
          go_upto_region 9 with fail
          clear o_I_0 o_I_1 o_I_2 o_I_3 o_I_4 o_I_5 o_I_6 o_N_0 o_N_1 o_N_2 o_N_3 o_N_4 o_N_5 p_N_0 p_N_1 p_N_2 p_N_3 p_N_4 p_N_5
          obtain ⟨w7, hw7⟩ : ∃ W, W = set6 w6 wr.heap.size (.bool false) (.int .i64 0) (.int .i64 0) (.int .i64 0) (.int .i64 0) (.int .i64 0) := ⟨_, rfl⟩
          have N7 := Lib.hid (show Bx w7 wr.heap.size 66 #[.bool false, .int .i64 0, .int .i64 0, .int .i64 0, .int .i64 0, .int .i64 0] by rw [hw7]; exact set6_bx N6.out)
          have b7 : Below wr.heap.size wr w7 := by rw [hw7]; exact set6_bel b6 (Nat.le_refl _)
          unfold set6 at hw7
          rw [← hw7]
          clear hw7
          have own7 := Lib.hid (hown9.out.below b7)
          have z7 := N7.out.lt
          have o_N_0 := N7.out.c (i := 0) rfl
          have o_N_1 := N7.out.c (i := 1) rfl
          have o_N_2 := N7.out.c (i := 2) rfl
          have o_N_3 := N7.out.c (i := 3) rfl
          have o_N_4 := N7.out.c (i := 4) rfl
          have o_N_5 := N7.out.c (i := 5) rfl
          have hbx : Below wr.heap.size wr w7 := b7
          obtain ⟨w8, hw8⟩ : ∃ W, W = w7.alloc (.cells #[.bool false, .int .i64 0, .int .i64 0, .int .i64 0, .int .i64 0, .int .i64 0] 66) := ⟨_, rfl⟩
          have b8 : Below w7.heap.size w7 w8 := by rw [hw8]; exact (Below.refl _ _).alloc (Nat.le_refl _) _
          have hsl := Lib.hid (show Sl w8 6 (some ⟨w7.heap.size, 0, none⟩) ([N0].map N.cells) from bx_sl (T := 66) (vals := #[.bool false, .int .i64 0, .int .i64 0, .int .i64 0, .int .i64 0, .int .i64 0]) (by rw [hw8]; exact Bx.new _ _ _ rfl) rfl (by intro c hc; simp at hc; subst hc; rfl))
          have own8 := Lib.hid (own7.out.below b8)
          have hb8 := Lib.hid (bt (bt hb.out hbx) b8)
          have hn1 : Hid ((L.map N.cells).length + ([N0].map N.cells).length ≤ 1000000) := Lib.hid (by rw [List.length_map, List.length_map, hlenL.out]; simp; omega)
          have hvl : Hid ((L.map N.cells).length = L.length) := Lib.hid (List.length_map ..)
          have hB2 : Hid (w0.heap.size ≤ w8.heap.size) := Lib.hid hb8.out.size
          clear b8 hbx
          go_wp2_with (at_builtin; rw [← hw8]; (refine wpList_append_sl rfl (.tmp 27) (.tmp 29) 24 rfl elN (by rfl) own8.out (by rfl) (by rfl) hsl.out (wholeN [N0]) (fun h => by cases h) hn1.out hB2.out ?_); intro v' w4 own1 grow1 _)
          have b4 : Below w0.heap.size w0 w4 := hb8.out.grown grow1 hb8.out.size (fun j hj => (own8.out.lt j hj).1)
          go_roundw
          case rel => exact ⟨k + 1, L ++ [N0], by omega, by go_num, hs.out, by unfold OwnN; rw [List.map_append]; exact own1, b4⟩
          case measure => simp [intOf]; omega
        · rw [if_neg hm] at hz
          obtain rfl := hz
          have o_I_0 := I_w1.out.c (i := 0) rfl
          have o_I_1 := I_w1.out.c (i := 1) rfl
          have o_I_2 := I_w1.out.c (i := 2) rfl
          have o_I_3 := I_w1.out.c (i := 3) rfl
          have o_I_4 := I_w1.out.c (i := 4) rfl
          have o_I_5 := I_w1.out.c (i := 5) rfl
          have o_I_6 := I_w1.out.c (i := 6) rfl
          have o_N_0 := N_w1.out.c (i := 0) rfl
          have o_N_1 := N_w1.out.c (i := 1) rfl
          have o_N_2 := N_w1.out.c (i := 2) rfl
          have o_N_3 := N_w1.out.c (i := 3) rfl
          have o_N_4 := N_w1.out.c (i := 4) rfl
          have o_N_5 := N_w1.out.c (i := 5) rfl
          have p_N_0 := N_w1.out.f 0
          have p_N_1 := N_w1.out.f 1
          have p_N_2 := N_w1.out.f 2
          have p_N_3 := N_w1.out.f 3
          have p_N_4 := N_w1.out.f 4
          have p_N_5 := N_w1.out.f 5
          go_upto_region 7 with fail
          clear o_I_0 o_I_1 o_I_2 o_I_3 o_I_4 o_I_5 o_I_6 o_N_0 o_N_1 o_N_2 o_N_3 o_N_4 o_N_5 p_N_0 p_N_1 p_N_2 p_N_3 p_N_4 p_N_5
          obtain ⟨w6, hw6⟩ : ∃ W, W = w1.setCell ⟨wr.heap.size, 5, none⟩ (.int .i64 (ya + 1)) := ⟨_, rfl⟩
          have N6 := Lib.hid (show Bx w6 wr.heap.size 66 #[.bool true, .int .i64 yv.r, .int .i64 yv.c, .int .i64 yv.b, .int .i64 yv.p, .int .i64 (ya + 1)] by rw [hw6]; exact N_w1.out.set 5 _)
          have b6 : Below wr.heap.size wr w6 := by rw [hw6]; exact bw1.setCell (Nat.le_refl _) _
          rw [← hw6]
          clear hw6
          have own6 := Lib.hid (hown9.out.below b6)
          have I6 := Lib.hid (Ir9.out.below b6)
          have z6 := N6.out.lt
          have zi6 := I6.out.x.lt
          have o_I_0 := I6.out.c (i := 0) rfl
          have o_I_1 := I6.out.c (i := 1) rfl
          have o_I_2 := I6.out.c (i := 2) rfl
          have o_I_3 := I6.out.c (i := 3) rfl
          have o_I_4 := I6.out.c (i := 4) rfl
          have o_I_5 := I6.out.c (i := 5) rfl
          have o_I_6 := I6.out.c (i := 6) rfl
          have o_N_0 := N6.out.c (i := 0) rfl
          have o_N_1 := N6.out.c (i := 1) rfl
          have o_N_2 := N6.out.c (i := 2) rfl
          have o_N_3 := N6.out.c (i := 3) rfl
          have o_N_4 := N6.out.c (i := 4) rfl
          have o_N_5 := N6.out.c (i := 5) rfl
          have p_N_0 := N6.out.f 0
          have p_N_1 := N6.out.f 1
          have p_N_2 := N6.out.f 2
          have p_N_3 := N6.out.f 3
          have p_N_4 := N6.out.f 4
          have p_N_5 := N6.out.f 5
          go_upto_region 9 with fail
          clear o_I_0 o_I_1 o_I_2 o_I_3 o_I_4 o_I_5 o_I_6 o_N_0 o_N_1 o_N_2 o_N_3 o_N_4 o_N_5 p_N_0 p_N_1 p_N_2 p_N_3 p_N_4 p_N_5
          have o_N_0 := N6.out.c (i := 0) rfl
          have o_N_1 := N6.out.c (i := 1) rfl
          have o_N_2 := N6.out.c (i := 2) rfl
          have o_N_3 := N6.out.c (i := 3) rfl
          have o_N_4 := N6.out.c (i := 4) rfl
          have o_N_5 := N6.out.c (i := 5) rfl
          have hbx : Below wr.heap.size wr w6 := b6
          obtain ⟨w8, hw8⟩ : ∃ W, W = w6.alloc (.cells #[.bool true, .int .i64 yv.r, .int .i64 yv.c, .int .i64 yv.b, .int .i64 yv.p, .int .i64 (ya + 1)] 66) := ⟨_, rfl⟩
          have b8 : Below w6.heap.size w6 w8 := by rw [hw8]; exact (Below.refl _ _).alloc (Nat.le_refl _) _
          have hsl := Lib.hid (show Sl w8 6 (some ⟨w6.heap.size, 0, none⟩) ([⟨true, yv, (ya + 1)⟩].map N.cells) from bx_sl (T := 66) (vals := #[.bool true, .int .i64 yv.r, .int .i64 yv.c, .int .i64 yv.b, .int .i64 yv.p, .int .i64 (ya + 1)]) (by rw [hw8]; exact Bx.new _ _ _ rfl) rfl (by intro c hc; simp at hc; subst hc; rfl))
          have own8 := Lib.hid (own6.out.below b8)
          have hb8 := Lib.hid (bt (bt hb.out hbx) b8)
          have hn1 : Hid ((L.map N.cells).length + ([⟨true, yv, (ya + 1)⟩].map N.cells).length ≤ 1000000) := Lib.hid (by rw [List.length_map, List.length_map, hlenL.out]; simp; omega)
          have hvl : Hid ((L.map N.cells).length = L.length) := Lib.hid (List.length_map ..)
          have hB2 : Hid (w0.heap.size ≤ w8.heap.size) := Lib.hid hb8.out.size
          clear b8 hbx
          go_wp2_with (at_builtin; rw [← hw8]; (refine wpList_append_sl rfl (.tmp 27) (.tmp 29) 24 rfl elN (by rfl) own8.out (by rfl) (by rfl) hsl.out (wholeN [⟨true, yv, (ya + 1)⟩]) (fun h => by cases h) hn1.out hB2.out ?_); intro v' w4 own1 grow1 _)
          have b4 : Below w0.heap.size w0 w4 := hb8.out.grown grow1 hb8.out.size (fun j hj => (own8.out.lt j hj).1)
          go_roundw
          case rel => exact ⟨k + 1, L ++ [⟨true, yv, (ya + 1)⟩], by omega, by go_num, hs.out, by unfold OwnN; rw [List.map_append]; exact own1, b4⟩
          case measure => simp [intOf]; omega
    · obtain rfl : k = t.self.infos.length := by omega
      obtain rfl : L = t.aged.self.infos := by rw [hL]; unfold T.aged; rw [List.take_of_length_le (by rw [List.length_map]; exact Nat.le_refl _)]
      clear hL
      have hrow := Lib.hid (rowN hown)
      have z0 := Ir.out.x.lt
      have o_I_0 := Ir.out.c (i := 0) rfl
      have f_I_0 := Ir.out.f 0
      have o_I_1 := Ir.out.c (i := 1) rfl
      have f_I_1 := Ir.out.f 1
      have o_I_2 := Ir.out.c (i := 2) rfl
      have f_I_2 := Ir.out.f 2
      have o_I_3 := Ir.out.c (i := 3) rfl
      have f_I_3 := Ir.out.f 3
      have o_I_4 := Ir.out.c (i := 4) rfl
      have f_I_4 := Ir.out.f 4
      have o_I_5 := Ir.out.c (i := 5) rfl
      have f_I_5 := Ir.out.f 5
      have o_I_6 := Ir.out.c (i := 6) rfl
      have f_I_6 := Ir.out.f 6
      have o_X_0 := Xr.out.c (i := 0) rfl
      have f_X_0 := Xr.out.f 0
      have o_X_1 := Xr.out.c (i := 1) rfl
      have f_X_1 := Xr.out.f 1
      have o_X_2 := Xr.out.c (i := 2) rfl
      have f_X_2 := Xr.out.f 2
      have o_X_3 := Xr.out.c (i := 3) rfl
      have f_X_3 := Xr.out.f 3
      have o_X_4 := Xr.out.c (i := 4) rfl
      have f_X_4 := Xr.out.f 4
      have o_X_5 := Xr.out.c (i := 5) rfl
      have f_X_5 := Xr.out.f 5
      have o_X_6 := Xr.out.c (i := 6) rfl
      have f_X_6 := Xr.out.f 6
      have zx := Xr.out.lt
      have hfar := Lib.hid (own_far hown)
      have hbw := Lib.hid (Ir.out.b)
      have hww : w.heap.size + 1 < w0.heap.size := X.out.lt
      replace hww := Lib.hid hww
      replace hown := Lib.hid hown
      replace hb := Lib.hid hb
      go_wp2_with fail
      refine bodyPost_ret (v := .agg #[.int .i64 t.self.id, .slice AC t.self.costs.length cC, .slice AU t.self.ups.length cU, .slice A3 t.aged.self.infos.length c3, .slice AS t.states.length cS, .int .i64 t.mx, .int .i64 t.dl]) (by simp [results, Try.results55, go_sem, o_X_0, o_X_1, o_X_2, o_X_3, o_X_4, o_X_5, o_X_6]) rfl ?_
      refine fin_r (c := 1) (n := w0.heap.size) (t' := t.aged) (wr := wr) (AC := AC) (cC := cC) (AU := AU) (cU := cU) (AI := A3) (cI := c3) (AS := AS) (cS := cS) (mk := fun v => v) ?hss hbw.out hww.out ?hv ?hr ?s1 ?off
      case hv => rfl
      case hss => repeat (first | with_reducible exact Sets.refl | with_reducible refine Sets.two ?_ | with_reducible refine Sets.one ?_)
      case hr => exact ⟨⟨(hR0.out.self.below hbw.out).costs, (hR0.out.self.below hbw.out).ups, hrow.out⟩, hR0.out.sts.below hbw.out⟩
      case s1 => exact fun b hb => hR0.out.off hb
      case off => exact fun b hs hb => ⟨hs.c, hs.u, fun _ a ha => by have := hfar.out a ha; omega, hs.s⟩
end Go.Proofs.Ytidoaccidmmalaa.StpP

/-
  Contracts of footwayref12: blank, New.
-/
namespace Go.Proofs.Ytidoaccidmmalaa.StpP
open Go.Proofs.Ytidoaccidmmalaa.MacP (arr_out Wrote wp_region_ends outM)
open Go.RowKit Go.Sort Go.Proofs.Ytidoaccidmmalaa.SliceP Go.Proofs.Ytidoaccidmmalaa.BoxP Go.Proofs.Ytidoaccidmmalaa.VecP Go.Proofs.Ytidoaccidmmalaa.RoleP
open Go.Proofs.Ytidoaccidmmalaa.IntP (RowI SlI OwnI)
open Go.Proofs.Ytidoaccidmmalaa.BoolP (RowB SlB OwnB)
open Go.Proofs.Ytidoaccidmmalaa.PortP (okS roleS tickS sv)
set_option linter.unusedVariables false
set_option maxRecDepth 100000
theorem apart_l {v v' u : Value} {n : Nat} (ha : ∀ j, v.ownBlock = some j → u.ownBlock ≠ some j) (hn : v'.ownBlock = v.ownBlock ∨ v'.ownBlock = some n) (hu : ∀ j, u.ownBlock = some j → j < n) : ∀ j, v'.ownBlock = some j → u.ownBlock ≠ some j := fun j hj hu' => by
  rcases hn with h | h
  · exact ha j (h ▸ hj) hu'
  · rw [hj] at h; obtain rfl := Option.some.inj h; have := hu _ hu'; omega
theorem apart_r {v u u' : Value} {n : Nat} (ha : ∀ j, v.ownBlock = some j → u.ownBlock ≠ some j) (hn : u'.ownBlock = u.ownBlock ∨ u'.ownBlock = some n) (hu : ∀ j, v.ownBlock = some j → j < n) : ∀ j, v.ownBlock = some j → u'.ownBlock ≠ some j := fun j hj hu' => by
  rcases hn with h | h
  · exact ha j hj (h ▸ hu')
  · rw [hu'] at h; obtain rfl := Option.some.inj h; have := hu _ hj; omega
theorem apart_ne {v u : Value} (ha : ∀ j, v.ownBlock = some j → u.ownBlock ≠ some j) : u.ownBlock = none ∨ u.ownBlock ≠ v.ownBlock := by
  cases h : v.ownBlock with
  | none => cases h2 : u.ownBlock with
    | none => exact .inl rfl
    | some k => exact .inr (by simp)
  | some j => exact .inr (ha j h)
theorem apart_ne' {v u : Value} (ha : ∀ j, v.ownBlock = some j → u.ownBlock ≠ some j) : v.ownBlock = none ∨ v.ownBlock ≠ u.ownBlock := by
  cases h : v.ownBlock with
  | none => exact .inl rfl
  | some j => exact .inr (fun e => ha j h e.symm)
theorem own_box {w : World} {B b : Nat} {e : TypeId} {sz : Nat} {v : Value} {xs : List (List Value)} (h : Own w B e sz v xs) (hb : b < B) : some b ≠ v.ownBlock := fun k => by have := (h.lt b k.symm).1; omega
theorem own_formB {w : World} {B : Nat} {v : Value} {l : List Bool} (h : OwnB w B v l) : ∃ A c, v = .slice A l.length c := by
  obtain ⟨A, c, rfl, _⟩ := h.form
  exact ⟨A, c, by rw [BoolP.cB_length]⟩
theorem rowB {w : World} {B : Nat} {A : Option Addr} {n c : Nat} {l : List Bool} (h : OwnB w B (.slice A n c) l) : RowB w A n c l := by
  obtain ⟨a, b, c, d⟩ := own_parts (f := fun x : Bool => [Value.bool x]) (by decide) h
  exact ⟨a, b, c, d⟩
theorem repB {w : World} {B : Nat} {v : Value} {k : Nat} (h : Own w B 4 1 v (BoolP.cB (List.replicate k true) ++ BoolP.cB [true])) : ∃ A c, v = .slice A (k + 1) c := by
  obtain ⟨A, c, rfl, _⟩ := h.form
  exact ⟨A, c, by rw [List.length_append, BoolP.cB_length, BoolP.cB_length]; simp⟩
theorem repN {w : World} {B : Nat} {v : Value} {k : Nat} (h : Own w B 66 6 v ((List.replicate k N0).map N.cells ++ [N0].map N.cells)) : ∃ A c, v = .slice A (k + 1) c := by
  obtain ⟨A, c, rfl, _⟩ := h.form
  exact ⟨A, c, by rw [List.length_append, List.length_map, List.length_map]; simp⟩
theorem grown_set (w : World) (b i : Nat) (v : Value) : w.grownBy (w.setCell ⟨b, i, none⟩ v) (some b) := ⟨rfl, rfl, rfl, by simp [World.setCell], fun k _ hne => heap_setCell_other w ⟨b, i, none⟩ k v (fun e => hne (by rw [e]))⟩
theorem map_true : ∀ l : List Int, (l.map fun _ => true) = List.replicate l.length true
  | [] => rfl
  | x :: l => by rw [List.map_cons, map_true l, List.length_cons, List.replicate_succ]
theorem map_n0 : ∀ l : List Int, (l.map fun _ => N0) = List.replicate l.length N0
  | [] => rfl
  | x :: l => by rw [List.map_cons, map_n0 l, List.length_cons, List.replicate_succ]
theorem blank_end {w wr W : World} {id : Int} {costs : List Int} {AC : Option Addr} {cC : Nat} {AU : Option Addr} {cU : Nat} {AI : Option Addr} {cI : Nat} (hss : Sets w.heap.size (w.heap.size + 1) wr W) (hbw : Below w.heap.size w wr) (fU : ∀ a, AU = some a → w.heap.size ≤ a.block) (fI : ∀ a, AI = some a → w.heap.size ≤ a.block)
    (k : ∀ W, Below w.heap.size w W → (∀ {sz : Nat} {A : Option Addr} {xs : List (List Value)}, Sl wr sz A xs → (∀ a, A = some a → w.heap.size + 2 ≤ a.block) → Sl W sz A xs) → SelfR W (newSelf id costs) AC cC AU cU AI cI) :
    ∃ AU' cU' AI' cI', Ending.returned (selfV id (.slice AC costs.length cC) (.slice AU costs.length cU) (.slice AI costs.length cI)) = .returned (selfV id (.slice AC costs.length cC) (.slice AU' costs.length cU') (.slice AI' costs.length cI')) ∧ SelfR W (newSelf id costs) AC cC AU' cU' AI' cI' ∧ (∀ a, AU' = some a → w.heap.size ≤ a.block) ∧ (∀ a, AI' = some a → w.heap.size ≤ a.block) ∧ Below w.heap.size w W := by
  have hbf := hss.below hbw (Nat.le_refl _) (by omega)
  exact ⟨AU, cU, AI, cI, rfl, k W hbf fun hs hA => hss.sl hs (fun a ha => by have := hA a ha; omega), fU, fI, hbf⟩
/-- What blank's loop keeps. -/
structure Lp (w w0 wr : World) (id : Int) (costs : List Int) (AC : Option Addr) (cC : Nat) (k : Nat) (AU : Option Addr) (cU : Nat) (AI : Option Addr) (cI : Nat) : Prop where
  s : Bx wr (w.heap.size + 1) 26 #[.int .i64 id, .slice AC costs.length cC, .slice AU k cU, .slice AI k cI]
  x : Bx wr w.heap.size 26 #[.int .i64 0, .slice none 0 0, .slice none 0 0, .slice none 0 0]
  u : OwnB wr w0.heap.size (.slice AU k cU) (List.replicate k true)
  n : OwnN wr w0.heap.size (.slice AI k cI) (List.replicate k N0)
  ap : ∀ j, (.slice AU k cU : Value).ownBlock = some j → (.slice AI k cI : Value).ownBlock ≠ some j
  b : Below w.heap.size w wr
  le : w0.heap.size ≤ wr.heap.size
set_option maxHeartbeats 4000000 in
theorem r_blank {id : Int} {costs : List Int} {AC : Option Addr} {cC : Nat} {w : World} (hlen : costs.length ≤ 1000) (hR : RowI w AC costs.length cC costs) :
    Calls Try.prog 43 #[.int .i64 id, .slice AC costs.length cC] w fun e w' => ∃ AU cU AI cI, e = .returned (selfV id (.slice AC costs.length cC) (.slice AU costs.length cU) (.slice AI costs.length cI)) ∧ SelfR w' (newSelf id costs) AC cC AU cU AI cI ∧ (∀ a, AU = some a → w.heap.size ≤ a.block) ∧ (∀ a, AI = some a → w.heap.size ≤ a.block) ∧ Below w.heap.size w w' := by
  obtain ⟨w0, hw0⟩ : ∃ W, W = (w.alloc (.cells #[.int .i64 0, .slice none 0 0, .slice none 0 0, .slice none 0 0] 26)).alloc (.cells #[.int .i64 id, .slice AC costs.length cC, .slice none 0 0, .slice none 0 0] 26) := ⟨_, rfl⟩
  have hn0 := Lib.hid (show w.heap.size + 2 = w0.heap.size by rw [hw0]; simp)
  have L0 := Lib.hid (show Lp w w0 w0 id costs AC cC 0 none 0 none 0 from ⟨by rw [hw0]; exact Bx.new _ _ _ (by simp), by rw [hw0]; exact (Bx.new _ _ _ rfl).alloc _, Own.nil _ _ _ _, Own.nil _ _ _ _, (fun j h => by cases h), by rw [hw0]; exact ((Below.refl _ _).alloc (Nat.le_refl _) _).alloc (by simp) _, Nat.le_refl _⟩)
  replace hR := Lib.hid hR
  go_enter Try.func43, Try.ntmps43
  go_wp2_with fail
  rw [← hw0]
  clear hw0
  go_loopw [11] (fun i wr => ∃ (k : Nat) (AU : Option Addr) (cU : Nat) (AI : Option Addr) (cI : Nat), k ≤ costs.length ∧ i = .int .i64 k ∧ Lp w w0 wr id costs AC cC k AU cU AI cI) (fun i _ => costs.length - (intOf i).toNat)
  case atStart => exact ⟨0, none, 0, none, 0, by omega, rfl, L0.out⟩
  case round =>
    clear L0
    obtain ⟨k, AU, cU, AI, cI, hk, rfl, L⟩ := hrel
    by_cases hkn : k < costs.length
    · replace L := Lib.hid L
      obtain ⟨w8, hw8⟩ : ∃ W, W = wr.alloc (.cells #[.bool true] 4) := ⟨_, rfl⟩
      have b8 := Lib.hid (show Below wr.heap.size wr w8 by rw [hw8]; exact (Below.refl _ _).alloc (Nat.le_refl _) _)
      have hsl := Lib.hid (show Sl w8 1 (some ⟨wr.heap.size, 0, none⟩) (BoolP.cB [true]) from bx_sl (T := 4) (vals := #[.bool true]) (by rw [hw8]; exact Bx.new _ _ _ rfl) rfl (by intro c hc; simp [BoolP.cB] at hc; subst hc; rfl))
      have own8 := Lib.hid (L.out.u.below b8.out)
      have hn1 : Hid ((BoolP.cB (List.replicate k true)).length + (BoolP.cB [true]).length ≤ 1000000) := Lib.hid (by rw [BoolP.cB_length, BoolP.cB_length]; simp; omega)
      have hvl : Hid ((BoolP.cB (List.replicate k true)).length = k) := Lib.hid (by rw [BoolP.cB_length]; simp)
      have hB2 : Hid (w0.heap.size ≤ w8.heap.size) := Lib.hid (Nat.le_trans L.out.le b8.out.size)
      have zs := Lib.hid L.out.s.lt
      have o0 := L.out.s.c (i := 0) rfl
      have o1 := L.out.s.c (i := 1) rfl
      have o2 := L.out.s.c (i := 2) rfl
      have o3 := L.out.s.c (i := 3) rfl
      have f2 := L.out.s.f 2
      go_upto_region 5 with (at_builtin; rw [← hw8]; (refine wpList_append_sl rfl (.tmp 14) (.tmp 15) 23 rfl BoolP.elB (by rfl) own8.out (by rfl) (by rfl) hsl.out (BoolP.whole [true]) (fun h => by cases h) hn1.out hB2.out ?_); intro v4 w4 own4 grow4 new4; have s4 := Lib.hid ((L.out.s.below b8.out).grown grow4 (own_box own8.out (by have := hn0.out; omega))); have x4 := Lib.hid ((L.out.x.below b8.out).grown grow4 (own_box own8.out (by have := hn0.out; omega))); have zz4 := s4.out.lt; have p0 := s4.out.c (i := 0) rfl; have p1 := s4.out.c (i := 1) rfl; have p2 := s4.out.c (i := 2) rfl; have p3 := s4.out.c (i := 3) rfl; have g2 := s4.out.f 2; have g3 := s4.out.f 3; obtain ⟨A4, c4, hv4⟩ := repB own4; subst hv4; replace own4 := Lib.hid own4; replace new4 := Lib.hid new4; replace grow4 := Lib.hid grow4)
      clear o0 o1 o2 o3 f2 zz4 p0 p1 p2 p3 g2 g3
      obtain ⟨w5, hw5⟩ : ∃ W, W = w4.setCell ⟨w.heap.size + 1, 2, none⟩ (.slice A4 (k + 1) c4) := ⟨_, rfl⟩
      rw [← hw5]
      have S5 := Lib.hid (show Bx w5 (w.heap.size + 1) 26 #[.int .i64 id, .slice AC costs.length cC, .slice A4 (k + 1) c4, .slice AI k cI] by rw [hw5]; exact s4.out.set 2 _)
      have X5 := Lib.hid (show Bx w5 w.heap.size 26 #[.int .i64 0, .slice none 0 0, .slice none 0 0, .slice none 0 0] by rw [hw5]; exact x4.out.other (Nat.ne_of_lt (Nat.lt_succ_self _)) _ _)
      have g5 := Lib.hid (show w4.grownBy w5 (some (w.heap.size + 1)) by rw [hw5]; exact grown_set _ _ _ _)
      have B4 := Lib.hid (show Below w.heap.size w w4 from (bt L.out.b b8.out).grown grow4.out (Nat.le_trans L.out.b.size b8.out.size) (fun j hj => by have := (own8.out.lt j hj).1; have := hn0.out; omega))
      have B5 := Lib.hid (show Below w.heap.size w w5 by rw [hw5]; exact B4.out.setCell (Nat.le_succ _) _)
      have le5 := Lib.hid (show w0.heap.size ≤ w5.heap.size from Nat.le_trans (Nat.le_trans hB2.out grow4.out.size) g5.out.size)
      have U5 := Lib.hid (show OwnB w5 w0.heap.size (.slice A4 (k + 1) c4) (List.replicate (k + 1) true) from (by unfold OwnB; rw [List.replicate_succ', BoolP.cB_append]; exact own4.out : OwnB w4 w0.heap.size (.slice A4 (k + 1) c4) (List.replicate (k + 1) true)).kept g5.out (.inr (Ne.symm (own_box own4.out (by have := hn0.out; omega)))))
      have N5 := Lib.hid (show OwnN w5 w0.heap.size (.slice AI k cI) (List.replicate k N0) from ((L.out.n.below b8.out).kept grow4.out (apart_ne L.out.ap)).kept g5.out (.inr (Ne.symm (own_box L.out.n (by have := hn0.out; omega)))))
      have ap5 := Lib.hid (show ∀ j, (Value.slice A4 (k + 1) c4).ownBlock = some j → (.slice AI k cI : Value).ownBlock ≠ some j from apart_l L.out.ap new4.out (fun j hj => Nat.lt_of_lt_of_le (L.out.n.lt j hj).2 b8.out.size))
      clear hw5 g5 s4 x4 hsl own8 hn1 hvl hB2 hw8 b8 zs own4 new4 grow4 B4
      obtain ⟨w8, hw8⟩ : ∃ W, W = w5.alloc (.cells #[.bool false, .int .i64 0, .int .i64 0, .int .i64 0, .int .i64 0, .int .i64 0] 66) := ⟨_, rfl⟩
      have b8 := Lib.hid (show Below w5.heap.size w5 w8 by rw [hw8]; exact (Below.refl _ _).alloc (Nat.le_refl _) _)
      have hsl := Lib.hid (show Sl w8 6 (some ⟨w5.heap.size, 0, none⟩) ([N0].map N.cells) from bx_sl (T := 66) (vals := #[.bool false, .int .i64 0, .int .i64 0, .int .i64 0, .int .i64 0, .int .i64 0]) (by rw [hw8]; exact Bx.new _ _ _ rfl) rfl (by intro c hc; simp at hc; subst hc; rfl))
      have own8 := Lib.hid (N5.out.below b8.out)
      have hn1 : Hid (((List.replicate k N0).map N.cells).length + ([N0].map N.cells).length ≤ 1000000) := Lib.hid (by rw [List.length_map, List.length_map]; simp; omega)
      have hvl : Hid (((List.replicate k N0).map N.cells).length = k) := Lib.hid (by rw [List.length_map]; simp)
      have hB2 : Hid (w0.heap.size ≤ w8.heap.size) := Lib.hid (Nat.le_trans le5.out b8.out.size)
      have zs := S5.out.lt
      have o0 := S5.out.c (i := 0) rfl
      have o1 := S5.out.c (i := 1) rfl
      have o2 := S5.out.c (i := 2) rfl
      have o3 := S5.out.c (i := 3) rfl
      have f3 := S5.out.f 3
      go_upto_region 6 with (at_builtin; rw [← hw8]; (refine wpList_append_sl rfl (.tmp 19) (.tmp 21) 24 rfl elN (by rfl) own8.out (by rfl) (by rfl) hsl.out (wholeN [N0]) (fun h => by cases h) hn1.out hB2.out ?_); intro v4 w4 own4 grow4 new4; have s4 := Lib.hid ((S5.out.below b8.out).grown grow4 (own_box own8.out (by have := hn0.out; omega))); have x4 := Lib.hid ((X5.out.below b8.out).grown grow4 (own_box own8.out (by have := hn0.out; omega))); have zz4 := s4.out.lt; have p0 := s4.out.c (i := 0) rfl; have p1 := s4.out.c (i := 1) rfl; have p2 := s4.out.c (i := 2) rfl; have p3 := s4.out.c (i := 3) rfl; have g2 := s4.out.f 2; have g3 := s4.out.f 3; obtain ⟨A6, c6, hv4⟩ := repN own4; subst hv4; replace own4 := Lib.hid own4; replace new4 := Lib.hid new4; replace grow4 := Lib.hid grow4)
      clear o0 o1 o2 o3 f3 zz4 p0 p1 p2 p3 g2 g3 zs
      obtain ⟨w6, hw6⟩ : ∃ W, W = w4.setCell ⟨w.heap.size + 1, 3, none⟩ (.slice A6 (k + 1) c6) := ⟨_, rfl⟩
      rw [← hw6]
      have S6 := Lib.hid (show Bx w6 (w.heap.size + 1) 26 #[.int .i64 id, .slice AC costs.length cC, .slice A4 (k + 1) c4, .slice A6 (k + 1) c6] by rw [hw6]; exact s4.out.set 3 _)
      have X6 := Lib.hid (show Bx w6 w.heap.size 26 #[.int .i64 0, .slice none 0 0, .slice none 0 0, .slice none 0 0] by rw [hw6]; exact x4.out.other (Nat.ne_of_lt (Nat.lt_succ_self _)) _ _)
      have g6 := Lib.hid (show w4.grownBy w6 (some (w.heap.size + 1)) by rw [hw6]; exact grown_set _ _ _ _)
      have B4 := Lib.hid (show Below w.heap.size w w4 from (bt B5.out b8.out).grown grow4.out (Nat.le_trans B5.out.size b8.out.size) (fun j hj => by have := (own8.out.lt j hj).1; have := hn0.out; omega))
      have B6 := Lib.hid (show Below w.heap.size w w6 by rw [hw6]; exact B4.out.setCell (Nat.le_succ _) _)
      have le6 := Lib.hid (show w0.heap.size ≤ w6.heap.size from Nat.le_trans (Nat.le_trans hB2.out grow4.out.size) g6.out.size)
      have N6 := Lib.hid (show OwnN w6 w0.heap.size (.slice A6 (k + 1) c6) (List.replicate (k + 1) N0) from (by unfold OwnN; rw [List.replicate_succ', List.map_append]; exact own4.out : OwnN w4 w0.heap.size (.slice A6 (k + 1) c6) (List.replicate (k + 1) N0)).kept g6.out (.inr (Ne.symm (own_box own4.out (by have := hn0.out; omega)))))
      have U6 := Lib.hid (show OwnB w6 w0.heap.size (.slice A4 (k + 1) c4) (List.replicate (k + 1) true) from ((U5.out.below b8.out).kept grow4.out (apart_ne' ap5.out)).kept g6.out (.inr (Ne.symm (own_box U5.out (by have := hn0.out; omega)))))
      have ap6 := Lib.hid (show ∀ j, (Value.slice A4 (k + 1) c4).ownBlock = some j → (Value.slice A6 (k + 1) c6).ownBlock ≠ some j from apart_r ap5.out new4.out (fun j hj => Nat.lt_of_lt_of_le (U5.out.lt j hj).2 b8.out.size))
      clear hw6 g6 s4 x4 hsl own8 hn1 hvl hB2 hw8 b8 own4 new4 grow4 B4 S5 X5 U5 N5 ap5 B5 le5 L
      go_wp2_with fail
      go_roundw
      case rel => exact ⟨k + 1, A4, c4, A6, c6, by omega, by go_num, S6.out, X6.out, U6.out, N6.out, ap6.out, B6.out, le6.out⟩
      case measure => simp [intOf]; omega
    · obtain rfl : k = costs.length := by omega
      replace L := Lib.hid L
      have zs := Lib.hid L.out.s.lt
      have zx := L.out.x.lt
      have o0 := L.out.s.c (i := 0) rfl
      have o1 := L.out.s.c (i := 1) rfl
      have o2 := L.out.s.c (i := 2) rfl
      have o3 := L.out.s.c (i := 3) rfl
      have p0 := L.out.x.c (i := 0) rfl
      have p1 := L.out.x.c (i := 1) rfl
      have p2 := L.out.x.c (i := 2) rfl
      have p3 := L.out.x.c (i := 3) rfl
      have f0 := L.out.x.f 0
      have f1 := L.out.x.f 1
      have f2 := L.out.x.f 2
      have f3 := L.out.x.f 3
      go_wp2_with fail
      refine bodyPost_ret (v := selfV id (.slice AC costs.length cC) (.slice AU costs.length cU) (.slice AI costs.length cI)) (by simp [results, Try.results43, go_sem, p0, p1, p2, p3]) rfl ?_
      refine blank_end (wr := wr) ?hss L.out.b (fun a ha => by have := own_far L.out.u a ha; have := hn0.out; omega) (fun a ha => by have := own_far L.out.n a ha; have := hn0.out; omega) ?k
      case hss => repeat (first | with_reducible exact Sets.refl | with_reducible refine Sets.two ?_ | with_reducible refine Sets.one ?_)
      case k => exact fun W hbf hs => ⟨hR.out.below hbf, by
          have hr := rowB L.out.u
          have := own_far L.out.u
          rw [← map_true costs] at hr
          exact ⟨rfl, hs hr.sl (fun a ha => by have := this a ha; have := hn0.out; omega), by show (costs.map fun _ => true).length ≤ cU; rw [List.length_map]; exact hr.cap, hr.nil⟩, by
          have hr := rowN L.out.n
          have := own_far L.out.n
          rw [← map_n0 costs] at hr
          exact ⟨rfl, hs hr.sl (fun a ha => by have := this a ha; have := hn0.out; omega), by show (costs.map fun _ => N0).length ≤ cI; rw [List.length_map]; exact hr.cap, hr.nil⟩⟩
theorem newOk_no {id : Int} {costs : List Int} {m d : Int} (h : newOk id costs m d = false) : (newSelf id costs).ok = false ∨ m < 1 ∨ 255 < m ∨ d < 1 ∨ 30 < d := by
  unfold newOk at h
  cases hr : (newSelf id costs).ok with
  | false => exact .inl rfl
  | true => rw [hr] at h; simp at h; right; omega
theorem newOk_yes {id : Int} {costs : List Int} {m d : Int} (h : newOk id costs m d = true) : (newSelf id costs).ok = true ∧ 1 ≤ m ∧ m ≤ 255 ∧ 1 ≤ d ∧ d ≤ 30 := by
  unfold newOk at h
  simp only [Bool.and_eq_true, Bool.not_eq_true', decide_eq_false_iff_not] at h
  exact ⟨h.1, by omega, by omega, by omega, by omega⟩
theorem ups_len (id : Int) (costs : List Int) : (newSelf id costs).ups.length = costs.length := List.length_map ..
theorem infos_len (id : Int) (costs : List Int) : (newSelf id costs).infos.length = costs.length := List.length_map ..
theorem new_right {id : Int} {costs : List Int} {AC : Option Addr} {cC : Nat} {AU : Option Addr} {cU : Nat} {AI : Option Addr} {cI : Nat} {w : World} {b : Bool} (hb : (newSelf id costs).ok = b) (hlen : costs.length ≤ 1000) (h : SelfR w (newSelf id costs) AC cC AU cU AI cI) : Calls Try.prog 39 #[selfV id (.slice AC costs.length cC) (.slice AU costs.length cU) (.slice AI costs.length cI)] w fun e w' => e = .returned (.bool b) ∧ Below w.heap.size w w' := by
  have := r_right h ⟨hlen, by rw [ups_len]; exact hlen, by rw [infos_len]; exact hlen⟩
  rw [ups_len, infos_len, hb] at this
  exact this
theorem new_settle {id : Int} {costs : List Int} {m d : Int} {AC : Option Addr} {cC : Nat} {AU : Option Addr} {cU : Nat} {AI : Option Addr} {cI : Nat} {AS : Option Addr} {cS : Nat} {w : World} (hok : (newSelf id costs).ok = true) (h : TreeR w (rawT id costs m d) AC cC AU cU AI cI AS cS) :
    Calls Try.prog 44 #[.agg #[.int .i64 id, .slice AC costs.length cC, .slice AU costs.length cU, .slice AI costs.length cI, .slice AS costs.length cS, .int .i64 m, .int .i64 d]] w (RetT w (fun b => OffT b (rawT id costs m d) AC AU AI AS) (newT id costs m d) (fun v => v)) := by
  have := r_settle hok (by show (costs.map fun _ => ((0 : Int), (0 : Int))).length = _; rw [List.length_map]; rfl) h
  unfold tv at this
  rw [show (rawT id costs m d).self.ups.length = costs.length from List.length_map .., show (rawT id costs m d).self.infos.length = costs.length from List.length_map .., show (rawT id costs m d).states.length = costs.length from List.length_map ..] at this
  exact this
/-- What New's loop keeps. -/
structure Lq (w w1 w3 wr : World) (id : Int) (costs : List Int) (m d : Int) (AC : Option Addr) (cC : Nat) (AU : Option Addr) (cU : Nat) (AI : Option Addr) (cI : Nat) (k : Nat) (AS : Option Addr) (cS : Nat) : Prop where
  s : Bx wr w1.heap.size 29 #[.int .i64 id, .slice AC costs.length cC, .slice AU costs.length cU, .slice AI costs.length cI, .slice AS k cS, .int .i64 m, .int .i64 d]
  o : OwnP wr w3.heap.size (.slice AS k cS) (List.replicate k (0, 0))
  b : Below w1.heap.size w1 wr
  le : w3.heap.size ≤ wr.heap.size
theorem repP {w : World} {B : Nat} {v : Value} {k : Nat} (h : Own w B 80 2 v ((List.replicate k ((0 : Int), (0 : Int))).map sc ++ [((0 : Int), (0 : Int))].map sc)) : ∃ A c, v = .slice A (k + 1) c := by
  obtain ⟨A, c, rfl, _⟩ := h.form
  exact ⟨A, c, by rw [List.length_append, List.length_map, List.length_map]; simp⟩
theorem map_00 : ∀ l : List Int, (l.map fun _ => ((0 : Int), (0 : Int))) = List.replicate l.length (0, 0)
  | [] => rfl
  | x :: l => by rw [List.map_cons, map_00 l, List.length_cons, List.replicate_succ]
theorem below7 {n b : Nat} {w0 w : World} (h : Below n w0 w) (hb : n ≤ b) (v0 v1 v2 v3 v4 v5 v6 : Value) : Below n w0 (((((((w.setCell ⟨b, 0, none⟩ v0).setCell ⟨b, 1, none⟩ v1).setCell ⟨b, 2, none⟩ v2).setCell ⟨b, 3, none⟩ v3).setCell ⟨b, 4, none⟩ v4).setCell ⟨b, 5, none⟩ v5).setCell ⟨b, 6, none⟩ v6) := ((((((h.setCell hb _).setCell hb _).setCell hb _).setCell hb _).setCell hb _).setCell hb _).setCell hb _
theorem fin_one {w wr W : World} {src : Nat → Prop} {t' : T} {AC : Option Addr} {cC : Nat} {AU : Option Addr} {cU : Nat} {AI : Option Addr} {cI : Nat} {AS : Option Addr} {cS : Nat} {mk : Value → Value} {v : Value} (hss : Sets w.heap.size w.heap.size wr W) (hbw : Below w.heap.size w wr) (hv : v = mk (tv t' AC cC AU cU AI cI AS cS))
    (hr : TreeR wr t' AC cC AU cU AI cI AS cS) (o1 : OffT w.heap.size t' AC AU AI AS) (hoff : ∀ b, b < w.heap.size → src b → OffT b t' AC AU AI AS) : RetT w src t' mk (.returned v) W := by
  subst hv
  exact ⟨AC, cC, AU, cU, AI, cI, AS, cS, rfl, hss.tree hr o1 o1, hss.below hbw (Nat.le_refl _) (Nat.le_refl _), hoff⟩
set_option maxHeartbeats 4000000 in
theorem r_new_no {id : Int} {costs : List Int} {m d : Int} {AC : Option Addr} {cC : Nat} {w : World} (hno : newOk id costs m d = false) (hlen : costs.length ≤ 1000) (hR : RowI w AC costs.length cC costs) : Calls Try.prog 12 #[.int .i64 id, .slice AC costs.length cC, .int .i64 m, .int .i64 d] w (RetT w (fun b => Off b AC costs) T0 (fun v => .tuple #[v, .bool false])) := by
  obtain ⟨w0, hw0⟩ : ∃ W, W = w.alloc (.cells #[.int .i64 0, .slice none 0 0, .slice none 0 0, .slice none 0 0, .slice none 0 0, .int .i64 0, .int .i64 0] 29) := ⟨_, rfl⟩
  have X0 := Lib.hid (show Bx w0 w.heap.size 29 #[.int .i64 0, .slice none 0 0, .slice none 0 0, .slice none 0 0, .slice none 0 0, .int .i64 0, .int .i64 0] by rw [hw0]; exact Bx.new _ _ _ rfl)
  have b0 := Lib.hid (show Below w.heap.size w w0 by rw [hw0]; exact (Below.refl _ _).alloc (Nat.le_refl _) _)
  have n0 := Lib.hid (show w.heap.size + 1 = w0.heap.size by rw [hw0]; simp)
  have hR0 := Lib.hid hR
  clear hR
  have hbl := Lib.hid (r_blank (id := id) hlen (hR0.out.below b0.out))
  obtain ⟨rk, hrk⟩ : ∃ b, (newSelf id costs).ok = b := ⟨_, rfl⟩
  have hway := newOk_no hno
  rw [hrk] at hway
  clear hno
  replace hrk := Lib.hid hrk
  replace hway := Lib.hid hway
  go_enter Try.func12, Try.ntmps12
  go_wp2_with fail
  rw [← hw0]
  clear hw0
  go_at_call 43
  (with_reducible refine hbl.out.mono ?_)
  rintro e w1 ⟨AU, cU, AI, cI, rfl, hS1, fU, fI, hb1⟩
  have X1 := Lib.hid (X0.out.below hb1)
  have B1 := Lib.hid (bt b0.out hb1)
  replace hS1 := Lib.hid hS1
  replace fU := Lib.hid fU
  replace fI := Lib.hid fI
  have n1 := Lib.hid (show w0.heap.size ≤ w1.heap.size from hb1.size)
  clear hb1
  go_upto_region 2 with fail
  obtain ⟨w3, hw3⟩ : ∃ W, W = w1.alloc (.cells #[.int .i64 id, .slice AC costs.length cC, .slice AU costs.length cU, .slice AI costs.length cI, .slice none 0 0, .int .i64 m, .int .i64 d] 29) := ⟨_, rfl⟩
  have b3 := Lib.hid (show Below w1.heap.size w1 w3 by rw [hw3]; exact (Below.refl _ _).alloc (Nat.le_refl _) _)
  have S3 := Lib.hid (show Bx w3 w1.heap.size 29 #[.int .i64 id, .slice AC costs.length cC, .slice AU costs.length cU, .slice AI costs.length cI, .slice none 0 0, .int .i64 m, .int .i64 d] by rw [hw3]; exact Bx.new _ _ _ rfl)
  have n3 := Lib.hid (show w1.heap.size + 1 = w3.heap.size by rw [hw3]; simp)
  rw [← hw3]
  clear hw3
  have z3 := S3.out.lt
  have o0 := S3.out.c (i := 0) rfl
  have o1 := S3.out.c (i := 1) rfl
  have o2 := S3.out.c (i := 2) rfl
  have o3 := S3.out.c (i := 3) rfl
  have o4 := S3.out.c (i := 4) rfl
  have o5 := S3.out.c (i := 5) rfl
  have o6 := S3.out.c (i := 6) rfl
  go_wp2_with fail
  clear o0 o1 o2 o3 o4 o5 o6 z3
  go_at_call 39
  (with_reducible refine (new_right hrk.out hlen (hS1.out.below b3.out)).mono ?_)
  rintro e w4 ⟨rfl, hb4⟩
  have B4 := Lib.hid (bt (bt B1.out b3.out) hb4)
  have X4 := Lib.hid ((X1.out.below b3.out).below hb4)
  have x0 := X4.out.c (i := 0) rfl
  have g0 := X4.out.f 0
  have x1 := X4.out.c (i := 1) rfl
  have g1 := X4.out.f 1
  have x2 := X4.out.c (i := 2) rfl
  have g2 := X4.out.f 2
  have x3 := X4.out.c (i := 3) rfl
  have g3 := X4.out.f 3
  have x4 := X4.out.c (i := 4) rfl
  have g4 := X4.out.f 4
  have x5 := X4.out.c (i := 5) rfl
  have g5 := X4.out.f 5
  have x6 := X4.out.c (i := 6) rfl
  have g6 := X4.out.f 6
  have zx := X4.out.lt
  have hend : ∀ W : World, Sets w.heap.size w.heap.size w4 W → RetT w (fun b => Off b AC costs) T0 (fun v => .tuple #[v, .bool false]) (.returned (.tuple #[.agg #[.int .i64 0, .slice none 0 0, .slice none 0 0, .slice none 0 0, .slice none 0 0, .int .i64 0, .int .i64 0], .bool false])) W := fun W hss => ⟨none, 0, none, 0, none, 0, none, 0, rfl, TreeR.zero _, hss.below B4.out (Nat.le_refl _) (Nat.le_refl _), fun b _ _ => ⟨fun h => absurd rfl h, fun h => absurd rfl h, fun h => absurd rfl h, fun h => absurd rfl h⟩⟩
  replace hend := Lib.hid hend
  clear hb4
  cases rk with
  | false =>
    go_wp2_with fail
    refine bodyPost_ret (v := .tuple #[.agg #[.int .i64 0, .slice none 0 0, .slice none 0 0, .slice none 0 0, .slice none 0 0, .int .i64 0, .int .i64 0], .bool false]) (by simp [results, Try.results12, go_sem, x0, x1, x2, x3, x4, x5, x6]) rfl ?_
    refine hend.out _ ?_
    repeat (first | with_reducible exact Sets.refl | with_reducible refine Sets.two ?_ | with_reducible refine Sets.one ?_)
  | true =>
    by_cases c_m5 : m < 1
    · skip
      go_wp2_with fail
      refine bodyPost_ret (v := .tuple #[.agg #[.int .i64 0, .slice none 0 0, .slice none 0 0, .slice none 0 0, .slice none 0 0, .int .i64 0, .int .i64 0], .bool false]) (by simp [results, Try.results12, go_sem, x0, x1, x2, x3, x4, x5, x6]) rfl ?_
      refine hend.out _ ?_
      repeat (first | with_reducible exact Sets.refl | with_reducible refine Sets.two ?_ | with_reducible refine Sets.one ?_)
    by_cases c_m7 : 255 < m
    · skip
      go_wp2_with fail
      refine bodyPost_ret (v := .tuple #[.agg #[.int .i64 0, .slice none 0 0, .slice none 0 0, .slice none 0 0, .slice none 0 0, .int .i64 0, .int .i64 0], .bool false]) (by simp [results, Try.results12, go_sem, x0, x1, x2, x3, x4, x5, x6]) rfl ?_
      refine hend.out _ ?_
      repeat (first | with_reducible exact Sets.refl | with_reducible refine Sets.two ?_ | with_reducible refine Sets.one ?_)
    by_cases c_d5 : d < 1
    · skip
      go_wp2_with fail
      refine bodyPost_ret (v := .tuple #[.agg #[.int .i64 0, .slice none 0 0, .slice none 0 0, .slice none 0 0, .slice none 0 0, .int .i64 0, .int .i64 0], .bool false]) (by simp [results, Try.results12, go_sem, x0, x1, x2, x3, x4, x5, x6]) rfl ?_
      refine hend.out _ ?_
      repeat (first | with_reducible exact Sets.refl | with_reducible refine Sets.two ?_ | with_reducible refine Sets.one ?_)
    by_cases c_d6 : 30 < d
    · skip
      go_wp2_with fail
      refine bodyPost_ret (v := .tuple #[.agg #[.int .i64 0, .slice none 0 0, .slice none 0 0, .slice none 0 0, .slice none 0 0, .int .i64 0, .int .i64 0], .bool false]) (by simp [results, Try.results12, go_sem, x0, x1, x2, x3, x4, x5, x6]) rfl ?_
      refine hend.out _ ?_
      repeat (first | with_reducible exact Sets.refl | with_reducible refine Sets.two ?_ | with_reducible refine Sets.one ?_)
    exact absurd hway.out (by simp; omega)
set_option maxHeartbeats 4000000 in
theorem r_new_ok {id : Int} {costs : List Int} {m d : Int} {AC : Option Addr} {cC : Nat} {w : World} (hok : newOk id costs m d = true) (hlen : costs.length ≤ 1000) (hR : RowI w AC costs.length cC costs) : Calls Try.prog 12 #[.int .i64 id, .slice AC costs.length cC, .int .i64 m, .int .i64 d] w (RetT w (fun b => Off b AC costs) (newT id costs m d) (fun v => .tuple #[v, .bool true])) := by
  obtain ⟨w0, hw0⟩ : ∃ W, W = w.alloc (.cells #[.int .i64 0, .slice none 0 0, .slice none 0 0, .slice none 0 0, .slice none 0 0, .int .i64 0, .int .i64 0] 29) := ⟨_, rfl⟩
  have X0 := Lib.hid (show Bx w0 w.heap.size 29 #[.int .i64 0, .slice none 0 0, .slice none 0 0, .slice none 0 0, .slice none 0 0, .int .i64 0, .int .i64 0] by rw [hw0]; exact Bx.new _ _ _ rfl)
  have b0 := Lib.hid (show Below w.heap.size w w0 by rw [hw0]; exact (Below.refl _ _).alloc (Nat.le_refl _) _)
  have n0 := Lib.hid (show w.heap.size + 1 = w0.heap.size by rw [hw0]; simp)
  have hR0 := Lib.hid hR
  clear hR
  have hbl := Lib.hid (r_blank (id := id) hlen (hR0.out.below b0.out))
  obtain ⟨hrk, hm1, hm2, hd1, hd2⟩ := newOk_yes hok
  have c1 : ¬ m < 1 := by omega
  have c2 : ¬ 255 < m := by omega
  have c3 : ¬ d < 1 := by omega
  have c4 : ¬ 30 < d := by omega
  clear hok hm1 hm2 hd1 hd2
  replace hrk := Lib.hid hrk
  go_enter Try.func12, Try.ntmps12
  go_wp2_with fail
  rw [← hw0]
  clear hw0
  go_at_call 43
  (with_reducible refine hbl.out.mono ?_)
  rintro e w1 ⟨AU, cU, AI, cI, rfl, hS1, fU, fI, hb1⟩
  have X1 := Lib.hid (X0.out.below hb1)
  have B1 := Lib.hid (bt b0.out hb1)
  replace hS1 := Lib.hid hS1
  replace fU := Lib.hid fU
  replace fI := Lib.hid fI
  have n1 := Lib.hid (show w0.heap.size ≤ w1.heap.size from hb1.size)
  clear hb1
  go_upto_region 2 with fail
  obtain ⟨w3, hw3⟩ : ∃ W, W = w1.alloc (.cells #[.int .i64 id, .slice AC costs.length cC, .slice AU costs.length cU, .slice AI costs.length cI, .slice none 0 0, .int .i64 m, .int .i64 d] 29) := ⟨_, rfl⟩
  have b3 := Lib.hid (show Below w1.heap.size w1 w3 by rw [hw3]; exact (Below.refl _ _).alloc (Nat.le_refl _) _)
  have S3 := Lib.hid (show Bx w3 w1.heap.size 29 #[.int .i64 id, .slice AC costs.length cC, .slice AU costs.length cU, .slice AI costs.length cI, .slice none 0 0, .int .i64 m, .int .i64 d] by rw [hw3]; exact Bx.new _ _ _ rfl)
  have n3 := Lib.hid (show w1.heap.size + 1 = w3.heap.size by rw [hw3]; simp)
  rw [← hw3]
  clear hw3
  have z3 := S3.out.lt
  have o0 := S3.out.c (i := 0) rfl
  have o1 := S3.out.c (i := 1) rfl
  have o2 := S3.out.c (i := 2) rfl
  have o3 := S3.out.c (i := 3) rfl
  have o4 := S3.out.c (i := 4) rfl
  have o5 := S3.out.c (i := 5) rfl
  have o6 := S3.out.c (i := 6) rfl
  go_wp2_with fail
  clear o0 o1 o2 o3 o4 o5 o6 z3
  go_at_call 39
  (with_reducible refine (new_right hrk.out hlen (hS1.out.below b3.out)).mono ?_)
  rintro e w4 ⟨rfl, hb4⟩
  have B4 := Lib.hid (bt (bt B1.out b3.out) hb4)
  have X4 := Lib.hid ((X1.out.below b3.out).below hb4)
  have S4 := Lib.hid (S3.out.below hb4)
  have le4 := Lib.hid (show w3.heap.size ≤ w4.heap.size from hb4.size)
  have L4 := Lib.hid (show Lq w w1 w3 w4 id costs m d AC cC AU cU AI cI 0 none 0 from ⟨S4.out, Own.nil _ _ _ _, bt b3.out hb4, le4.out⟩)
  clear hb4
  go_wp2_with fail
  clear c1 c2 c3 c4
  go_loopw [40] (fun i wr => ∃ (k : Nat) (AS : Option Addr) (cS : Nat), k ≤ costs.length ∧ i = .int .i64 k ∧ Lq w w1 w3 wr id costs m d AC cC AU cU AI cI k AS cS) (fun i _ => costs.length - (intOf i).toNat)
  case atStart => exact ⟨0, none, 0, by omega, rfl, L4.out⟩
  case round =>
    clear L4 S4 X4 B4
    obtain ⟨k, AS, cS, hk, rfl, L⟩ := hrel
    by_cases hkn : k < costs.length
    · replace L := Lib.hid L
      obtain ⟨w8, hw8⟩ : ∃ W, W = wr.alloc (.cells #[.int .i64 0, .int .i64 0] 80) := ⟨_, rfl⟩
      have b8 := Lib.hid (show Below wr.heap.size wr w8 by rw [hw8]; exact (Below.refl _ _).alloc (Nat.le_refl _) _)
      have hsl := Lib.hid (show Sl w8 2 (some ⟨wr.heap.size, 0, none⟩) ([((0 : Int), (0 : Int))].map sc) from bx_sl (T := 80) (vals := #[.int .i64 0, .int .i64 0]) (by rw [hw8]; exact Bx.new _ _ _ rfl) rfl (by intro c hc; simp at hc; subst hc; rfl))
      have own8 := Lib.hid (L.out.o.below b8.out)
      have hn1 : Hid (((List.replicate k ((0 : Int), (0 : Int))).map sc).length + ([((0 : Int), (0 : Int))].map sc).length ≤ 1000000) := Lib.hid (by rw [List.length_map, List.length_map]; simp; omega)
      have hvl : Hid (((List.replicate k ((0 : Int), (0 : Int))).map sc).length = k) := Lib.hid (by rw [List.length_map]; simp)
      have hB2 : Hid (w3.heap.size ≤ w8.heap.size) := Lib.hid (Nat.le_trans L.out.le b8.out.size)
      have zs := L.out.s.lt
      have o0 := L.out.s.c (i := 0) rfl
      have o1 := L.out.s.c (i := 1) rfl
      have o2 := L.out.s.c (i := 2) rfl
      have o3 := L.out.s.c (i := 3) rfl
      have o4 := L.out.s.c (i := 4) rfl
      have o5 := L.out.s.c (i := 5) rfl
      have o6 := L.out.s.c (i := 6) rfl
      have f4 := L.out.s.f 4
      go_upto_region 7 with (at_builtin; rw [← hw8]; (refine wpList_append_sl rfl (.tmp 43) (.tmp 45) 27 rfl elP (by rfl) own8.out (by rfl) (by rfl) hsl.out (wholeP [(0, 0)]) (fun h => by cases h) hn1.out hB2.out ?_); intro v4 w4' own4 grow4 new4; have s4 := Lib.hid ((L.out.s.below b8.out).grown grow4 (own_box own8.out (by have := n3.out; omega))); have zz4 := s4.out.lt; have p0 := s4.out.c (i := 0) rfl; have p1 := s4.out.c (i := 1) rfl; have p2 := s4.out.c (i := 2) rfl; have p3 := s4.out.c (i := 3) rfl; have p4 := s4.out.c (i := 4) rfl; have p5 := s4.out.c (i := 5) rfl; have p6 := s4.out.c (i := 6) rfl; have g4 := s4.out.f 4; obtain ⟨A4, c4, hv4⟩ := repP own4; subst hv4; replace own4 := Lib.hid own4; replace grow4 := Lib.hid grow4)
      clear o0 o1 o2 o3 o4 o5 o6 f4 zz4 p0 p1 p2 p3 p4 p5 p6 g4 zs
      obtain ⟨w5, hw5⟩ : ∃ W, W = w4'.setCell ⟨w1.heap.size, 4, none⟩ (.slice A4 (k + 1) c4) := ⟨_, rfl⟩
      rw [← hw5]
      have S5 := Lib.hid (show Bx w5 w1.heap.size 29 #[.int .i64 id, .slice AC costs.length cC, .slice AU costs.length cU, .slice AI costs.length cI, .slice A4 (k + 1) c4, .int .i64 m, .int .i64 d] by rw [hw5]; exact s4.out.set 4 _)
      have g5 := Lib.hid (show w4'.grownBy w5 (some w1.heap.size) by rw [hw5]; exact grown_set _ _ _ _)
      have B4 := Lib.hid (show Below w1.heap.size w1 w4' from (L.out.b.trans (b8.out.mono L.out.b.size)).grown grow4.out (Nat.le_trans L.out.b.size b8.out.size) (fun j hj => by have := (own8.out.lt j hj).1; have := n3.out; omega))
      have B5 := Lib.hid (show Below w1.heap.size w1 w5 by rw [hw5]; exact B4.out.setCell (Nat.le_refl _) _)
      have le5 := Lib.hid (show w3.heap.size ≤ w5.heap.size from Nat.le_trans (Nat.le_trans hB2.out grow4.out.size) g5.out.size)
      have O5 := Lib.hid (show OwnP w5 w3.heap.size (.slice A4 (k + 1) c4) (List.replicate (k + 1) (0, 0)) from (by unfold OwnP; rw [List.replicate_succ', List.map_append]; exact own4.out : OwnP w4' w3.heap.size (.slice A4 (k + 1) c4) (List.replicate (k + 1) (0, 0))).kept g5.out (.inr (Ne.symm (own_box own4.out (by have := n3.out; omega)))))
      clear hw5 g5 s4 hsl own8 hn1 hvl hB2 hw8 b8 own4 grow4 B4 L
      go_wp2_with fail
      go_roundw
      case rel => exact ⟨k + 1, A4, c4, by omega, by go_num, S5.out, O5.out, B5.out, le5.out⟩
      case measure => simp [intOf]; omega
    · obtain rfl : k = costs.length := by omega
      have hown := Lib.hid L.o
      have hst : RowP wr AS costs.length cS (List.replicate costs.length (0, 0)) := rowP L.o
      have tr : TreeR wr (rawT id costs m d) AC cC AU cU AI cI AS cS := ⟨hS1.out.below L.b, by
        have e : (rawT id costs m d).states = List.replicate costs.length (0, 0) := map_00 costs
        rw [e]
        rw [show (List.replicate costs.length ((0 : Int), (0 : Int))).length = costs.length from List.length_replicate]
        exact hst⟩
      replace tr := Lib.hid tr
      replace L := Lib.hid L
      clear hst
      have zs := L.out.s.lt
      have o0 := L.out.s.c (i := 0) rfl
      have o1 := L.out.s.c (i := 1) rfl
      have o2 := L.out.s.c (i := 2) rfl
      have o3 := L.out.s.c (i := 3) rfl
      have o4 := L.out.s.c (i := 4) rfl
      have o5 := L.out.s.c (i := 5) rfl
      have o6 := L.out.s.c (i := 6) rfl
      go_wp2_with fail
      clear o0 o1 o2 o3 o4 o5 o6 zs
      go_at_call 44
      (with_reducible refine (new_settle hrk.out tr.out).mono ?_)
      rintro e w5 ⟨AC5, cC5, AU5, cU5, AI5, cI5, AS5, cS5, rfl, tr5, hb5, off5⟩
      replace tr5 := Lib.hid tr5
      replace off5 := Lib.hid off5
      have B5 := Lib.hid (show Below w.heap.size w w5 from bt (B1.out.trans (L.out.b.mono B1.out.size)) hb5)
      have X4 := Lib.hid (show Bx w5 w.heap.size 29 #[.int .i64 0, .slice none 0 0, .slice none 0 0, .slice none 0 0, .slice none 0 0, .int .i64 0, .int .i64 0] from (X1.out.below L.out.b).below hb5)
      have hlt := Lib.hid (show w.heap.size < wr.heap.size by have := n0.out; have := n1.out; have := L.out.b.size; omega)
      have offw := Lib.hid (show ∀ b, b ≤ w.heap.size → Off b AC costs → OffT b (newT id costs m d) AC5 AU5 AI5 AS5 from fun b hb hc => off5.out b (by have := hlt.out; omega) ⟨hc, fun _ a ha => by have := fU.out a ha; have := n0.out; omega, fun _ a ha => by have := fI.out a ha; have := n0.out; omega, fun _ a ha => by have := own_far hown.out a ha; have := n3.out; have := n0.out; have := n1.out; omega⟩)
      clear hb5
      have x0 := X4.out.c (i := 0) rfl
      have g0 := X4.out.f 0
      have x1 := X4.out.c (i := 1) rfl
      have g1 := X4.out.f 1
      have x2 := X4.out.c (i := 2) rfl
      have g2 := X4.out.f 2
      have x3 := X4.out.c (i := 3) rfl
      have g3 := X4.out.f 3
      have x4 := X4.out.c (i := 4) rfl
      have g4 := X4.out.f 4
      have x5 := X4.out.c (i := 5) rfl
      have g5 := X4.out.f 5
      have x6 := X4.out.c (i := 6) rfl
      have g6 := X4.out.f 6
      have zx := X4.out.lt
      go_wp2_with fail
      refine bodyPost_ret (v := .tuple #[tv (newT id costs m d) AC5 cC5 AU5 cU5 AI5 cI5 AS5 cS5, .bool true]) (by simp [results, Try.results12, go_sem, x0, x1, x2, x3, x4, x5, x6]) rfl ?_
      refine fin_one (t' := newT id costs m d) (wr := w5) (AC := AC5) (cC := cC5) (AU := AU5) (cU := cU5) (AI := AI5) (cI := cI5) (AS := AS5) (cS := cS5) (mk := fun v => .tuple #[v, .bool true]) ?hss B5.out rfl tr5.out (offw.out _ (Nat.le_refl _) (off_sl (f := fun x : Int => [Value.int .i64 x]) hR0.out.sl (Nat.le_refl _))) (fun b hb hs => offw.out b (Nat.le_of_lt hb) hs)
      case hss => repeat (first | with_reducible exact Sets.refl | with_reducible refine Sets.two ?_ | with_reducible refine Sets.one ?_)
end Go.Proofs.Ytidoaccidmmalaa.StpP
