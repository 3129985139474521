/-
  What is asked of stp's own functions; the statements' alive.
-/
import Derived.Test.YtidoaccidmmalaaStpI
namespace Go.Proofs.Ytidoaccidmmalaa.StpP
open Go.Proofs.Ytidoaccidmmalaa.MacP (arr_out Wrote wp_region_ends outM)
open Go.RowKit Go.Sort Go.Proofs.Ytidoaccidmmalaa.SliceP Go.Proofs.Ytidoaccidmmalaa.BoxP Go.Proofs.Ytidoaccidmmalaa.VecP Go.Proofs.Ytidoaccidmmalaa.RoleP
open Go.Proofs.Ytidoaccidmmalaa.IntP (RowI SlI OwnI)
open Go.Proofs.Ytidoaccidmmalaa.BoolP (RowB SlB OwnB)
open Go.Proofs.Ytidoaccidmmalaa.PortP (okS roleS tickS sv)
set_option linter.unusedVariables false
set_option maxRecDepth 100000
/-- A tree that is handed on. -/
structure ArgT (w : World) (t : T) (AC : Option Addr) (cC : Nat) (AU : Option Addr) (cU : Nat) (AI : Option Addr) (cI : Nat) (AS : Option Addr) (cS : Nat) : Prop where
  r : TreeR w t AC cC AU cU AI cI AS cS
  l : Len t
theorem ArgT.below {w w' : World} {t : T} {AC : Option Addr} {cC : Nat} {AU : Option Addr} {cU : Nat} {AI : Option Addr} {cI : Nat} {AS : Option Addr} {cS : Nat} (h : ArgT w t AC cC AU cU AI cI AS cS) (hb : Below w.heap.size w w') : ArgT w' t AC cC AU cU AI cI AS cS := ⟨h.r.below hb, h.l⟩
/-- The contracts of stp's own functions. -/
structure StpC : Prop where
  right : ∀ {t : T} {AC : Option Addr} {cC : Nat} {AU : Option Addr} {cU : Nat} {AI : Option Addr} {cI : Nat} {AS : Option Addr} {cS : Nat} {w : World}, ArgT w t AC cC AU cU AI cI AS cS → Calls Try.prog 9 #[tv t AC cC AU cU AI cI AS cS] w fun e w' => e = .returned (.bool t.ok) ∧ Below w.heap.size w w'
  new_ok : ∀ {id : Int} {costs : List Int} {m d : Int} {AC : Option Addr} {cC : Nat} {w : World}, newOk id costs m d = true → costs.length ≤ 1000 → RowI w AC costs.length cC costs → Calls Try.prog 7 #[.int .i64 id, .slice AC costs.length cC, .int .i64 m, .int .i64 d] w (RetT w (fun b => Off b AC costs) (newT id costs m d) (fun v => .tuple #[v, .int .i64 0]))
  new_no : ∀ {id : Int} {costs : List Int} {m d : Int} {AC : Option Addr} {cC : Nat} {w : World}, newOk id costs m d = false → costs.length ≤ 1000 → RowI w AC costs.length cC costs → Calls Try.prog 7 #[.int .i64 id, .slice AC costs.length cC, .int .i64 m, .int .i64 d] w (RetT w (fun b => Off b AC costs) T0 (fun v => .tuple #[v, .int .i64 2]))
  hear_ok : ∀ {t : T} {AC : Option Addr} {cC : Nat} {AU : Option Addr} {cU : Nat} {AI : Option Addr} {cI : Nat} {AS : Option Addr} {cS : Nat} {w : World} {p : Nat} {v : V} {a : Int}, t.ok = true → ArgT w t AC cC AU cU AI cI AS cS → p < t.states.length → cfgOk v a = true → Calls Try.prog 8 #[tv t AC cC AU cU AI cI AS cS, .int .i64 p, cg v a] w (RetT w (fun b => OffT b t AC AU AI AS) (t.hear p v a) (fun x => .tuple #[x, .bool (t.hears p v a), .int .i64 0]))
  hear_no : ∀ {t : T} {AC : Option Addr} {cC : Nat} {AU : Option Addr} {cU : Nat} {AI : Option Addr} {cI : Nat} {AS : Option Addr} {cS : Nat} {w : World} {p : Int} {v : V} {a : Int}, t.ok = false → ArgT w t AC cC AU cU AI cI AS cS → Calls Try.prog 8 #[tv t AC cC AU cU AI cI AS cS, .int .i64 p, cg v a] w (RetT w (fun b => OffT b t AC AU AI AS) T0 (fun x => .tuple #[x, .bool false, .int .i64 1]))
  hear_range : ∀ {t : T} {AC : Option Addr} {cC : Nat} {AU : Option Addr} {cU : Nat} {AI : Option Addr} {cI : Nat} {AS : Option Addr} {cS : Nat} {w : World} {p : Int} {v : V} {a : Int}, t.ok = true → ArgT w t AC cC AU cU AI cI AS cS → (p < 0 ∨ (t.states.length : Int) ≤ p) → Calls Try.prog 8 #[tv t AC cC AU cU AI cI AS cS, .int .i64 p, cg v a] w (RetT w (fun b => OffT b t AC AU AI AS) T0 (fun x => .tuple #[x, .bool false, .int .i64 3]))
  hear_arg : ∀ {t : T} {AC : Option Addr} {cC : Nat} {AU : Option Addr} {cU : Nat} {AI : Option Addr} {cI : Nat} {AS : Option Addr} {cS : Nat} {w : World} {p : Nat} {v : V} {a : Int}, t.ok = true → ArgT w t AC cC AU cU AI cI AS cS → p < t.states.length → cfgOk v a = false → Calls Try.prog 8 #[tv t AC cC AU cU AI cI AS cS, .int .i64 p, cg v a] w (RetT w (fun b => OffT b t AC AU AI AS) T0 (fun x => .tuple #[x, .bool false, .int .i64 1]))
  tick_ok : ∀ {t : T} {AC : Option Addr} {cC : Nat} {AU : Option Addr} {cU : Nat} {AI : Option Addr} {cI : Nat} {AS : Option Addr} {cS : Nat} {w : World}, t.ok = true → ArgT w t AC cC AU cU AI cI AS cS → Calls Try.prog 16 #[tv t AC cC AU cU AI cI AS cS] w (RetTD w (fun b => OffT b t AC AU AI AS) t.tick t.tick.sends (fun v l => .tuple #[v, l, .int .i64 0]))
  tick_no : ∀ {t : T} {AC : Option Addr} {cC : Nat} {AU : Option Addr} {cU : Nat} {AI : Option Addr} {cI : Nat} {AS : Option Addr} {cS : Nat} {w : World}, t.ok = false → ArgT w t AC cC AU cU AI cI AS cS → Calls Try.prog 16 #[tv t AC cC AU cU AI cI AS cS] w (RetTD w (fun b => OffT b t AC AU AI AS) T0 [] (fun v l => .tuple #[v, l, .int .i64 1]))
  link_ok : ∀ {t : T} {AC : Option Addr} {cC : Nat} {AU : Option Addr} {cU : Nat} {AI : Option Addr} {cI : Nat} {AS : Option Addr} {cS : Nat} {w : World} {p : Nat} {up : Bool}, t.ok = true → ArgT w t AC cC AU cU AI cI AS cS → p < t.states.length → Calls Try.prog 17 #[tv t AC cC AU cU AI cI AS cS, .int .i64 p, .bool up] w (RetT w (fun b => OffT b t AC AU AI AS) (t.link p up) (fun x => .tuple #[x, .int .i64 0]))
  link_no : ∀ {t : T} {AC : Option Addr} {cC : Nat} {AU : Option Addr} {cU : Nat} {AI : Option Addr} {cI : Nat} {AS : Option Addr} {cS : Nat} {w : World} {p : Int} {up : Bool}, t.ok = false → ArgT w t AC cC AU cU AI cI AS cS → Calls Try.prog 17 #[tv t AC cC AU cU AI cI AS cS, .int .i64 p, .bool up] w (RetT w (fun b => OffT b t AC AU AI AS) T0 (fun x => .tuple #[x, .int .i64 1]))
  link_range : ∀ {t : T} {AC : Option Addr} {cC : Nat} {AU : Option Addr} {cU : Nat} {AI : Option Addr} {cI : Nat} {AS : Option Addr} {cS : Nat} {w : World} {p : Int} {up : Bool}, t.ok = true → ArgT w t AC cC AU cU AI cI AS cS → (p < 0 ∨ (t.states.length : Int) ≤ p) → Calls Try.prog 17 #[tv t AC cC AU cU AI cI AS cS, .int .i64 p, .bool up] w (RetT w (fun b => OffT b t AC AU AI AS) T0 (fun x => .tuple #[x, .int .i64 3]))
  fwd_ok : ∀ {t : T} {AC : Option Addr} {cC : Nat} {AU : Option Addr} {cU : Nat} {AI : Option Addr} {cI : Nat} {AS : Option Addr} {cS : Nat} {w : World}, t.ok = true → ArgT w t AC cC AU cU AI cI AS cS → Calls Try.prog 18 #[tv t AC cC AU cU AI cI AS cS] w fun e w' => ∃ A c, e = .returned (.tuple #[.slice A t.fwd.length c, .int .i64 0]) ∧ RowI w' A t.fwd.length c t.fwd ∧ Below w.heap.size w w'
  fwd_no : ∀ {t : T} {AC : Option Addr} {cC : Nat} {AU : Option Addr} {cU : Nat} {AI : Option Addr} {cI : Nat} {AS : Option Addr} {cS : Nat} {w : World}, t.ok = false → ArgT w t AC cC AU cU AI cI AS cS → Calls Try.prog 18 #[tv t AC cC AU cU AI cI AS cS] w fun e w' => ∃ A c, e = .returned (.tuple #[.slice A 0 c, .int .i64 1]) ∧ Below w.heap.size w w'
section
variable {s : S}
theorem blank_root (h : ∀ p, (s.info p).has = false) : s.root = none := by
  cases hr : s.root with
  | none => rfl
  | some b => have := (root_lt hr).2; rw [h b] at this; cases this
theorem blank_role (h : ∀ p, (s.info p).has = false) (p : Nat) : s.role p = if s.up p = true then 1 else 3 := by
  unfold S.role
  rw [blank_root h, h p]
  cases s.up p <;> simp
theorem blank_age (h : ∀ p, (s.info p).has = false) : s.age = 0 := by unfold S.age; rw [blank_root h]
theorem blank_tells (h : ∀ p, (s.info p).has = false) (p : Int) : s.tells p = ⟨s.id, 0, s.id, p⟩ := by unfold S.tells; rw [blank_root h]
end
theorem new_ok_of {id : Int} {costs : List Int} {m d : Int} (h0 : 0 ≤ id) (h1 : id ≤ 65535) (n1 : 1 ≤ costs.length) (n2 : costs.length ≤ 8) (hc : ∀ p, p < costs.length → 1 ≤ costs.getD p 0 ∧ costs.getD p 0 ≤ 1000) (m1 : 1 ≤ m) (m2 : m ≤ 255) (d1 : 1 ≤ d) (d2 : d ≤ 30) : newOk id costs m d = true := by
  have hs : (newSelf id costs).ok = true := okS_mk (head_iff.2 ⟨⟨h0, h1⟩, ⟨n1, n2⟩, ups_len id costs, infos_len id costs⟩) fun p hp => by
    obtain ⟨k1, k2⟩ := hc p hp
    refine ⟨k1, k2, ?_⟩
    have : (newSelf id costs).info p = N0 := by
      unfold newSelf S.info
      simp only [List.getD_eq_getElem?_getD, List.getElem?_map]
      cases costs[p]? <;> rfl
    rw [this]; exact n0_ok _
  unfold newOk
  rw [hs]
  simp; omega
/-- Whom alive asks. -/
abbrev tA : T := newT 5 [10] 20 2
theorem tA_ok : newOk 5 [10] 20 2 = true := new_ok_of (by decide) (by decide) (by decide) (by decide) (fun p hp => by
  have : p = 0 := by simp at hp; omega
  subst this; decide) (by decide) (by decide) (by decide) (by decide)
theorem new_pre {id : Int} {costs : List Int} {m d : Int} (h : newOk id costs m d = true) : Pre (rawT id costs m d) := by
  obtain ⟨h1, h2, h3, h4, h5⟩ := newOk_yes h
  refine ⟨h1, by show (costs.map fun _ => ((0 : Int), (0 : Int))).length = costs.length; rw [List.length_map], ⟨h2, h3⟩, fun p hp => ?_, fun p hp => ?_⟩
  · have : (rawT id costs m d).st p = (0, 0) := by
      unfold rawT T.st
      simp only [List.getD_eq_getElem?_getD, List.getElem?_map]
      cases costs[p]? <;> rfl
    rw [this]
    exact PortP.ok_iff.2 ⟨⟨h4, h5⟩, .inl ⟨rfl, rfl⟩⟩
  · have : (rawT id costs m d).self.info p = N0 := by
      show (newSelf id costs).info p = N0
      unfold newSelf S.info
      simp only [List.getD_eq_getElem?_getD, List.getElem?_map]
      cases costs[p]? <;> rfl
    rw [this]; show (0 : Int) < m; omega
theorem newT_ok {id : Int} {costs : List Int} {m d : Int} (h : newOk id costs m d = true) : (newT id costs m d).ok = true := settle_ok (new_pre h)
theorem tA_tok : tA.ok = true := newT_ok tA_ok
theorem tA_len : Len tA := ⟨by decide, by decide, by decide, by decide⟩
theorem tA_info (p : Nat) : tA.tick.self.info p = N0 := by
  show (tA.aged).self.info p = N0
  rw [aged_info p (by decide)]
  have : tA.self.info p = N0 := by
    show (newSelf 5 [10]).info p = N0
    unfold newSelf S.info
    simp only [List.getD_eq_getElem?_getD, List.getElem?_map]
    cases ([10] : List Int)[p]? <;> rfl
  rw [this]
  unfold aged older; simp [tA, newT, T.settle, rawT]
theorem tA_sends : tA.tick.sends = [⟨0, ⟨5, 0, 5, 0⟩, 0⟩] := by
  have hb : ∀ p, (tA.tick.self.info p).has = false := fun p => by rw [tA_info p]
  have hr : tA.tick.self.role 0 = 1 := by rw [blank_role hb]; rfl
  have ht : tA.tick.self.tell 0 tA.tick.mx = true := by unfold S.tell; rw [hr, blank_age hb]; rfl
  have : tA.tick.states.length = 1 := by show (tA.aged.settle.ticked).states.length = 1; rw [ticked_len, settle_len]; rfl
  unfold T.sends
  rw [this]
  show tA.tick.send 0 ++ [] = _
  unfold T.send
  rw [if_pos ht]
  unfold S.told S.toldAge
  rw [if_pos ht, if_pos ht, blank_tells hb, blank_age hb]
  rfl
theorem eql_c0 (w : World) : (binOp .eql 33 (.agg #[.int .i64 5, .int .i64 0, .int .i64 5, .int .i64 0, .int .i64 0]) (.agg #[.int .i64 5, .int .i64 0, .int .i64 5, .int .i64 0, .int .i64 0])).run Try.prog w = .ok (.bool true) w := by kernel_rfl
set_option maxHeartbeats 8000000 in
theorem alive_any (C : StpC) (w : World) : Calls Try.prog 11 #[] w fun e w' => e = .returned (.bool true) ∧ Below w.heap.size w w' := by
  obtain ⟨w0, hw0⟩ : ∃ W, W = w.alloc (.cells #[.int .i64 10] 3) := ⟨_, rfl⟩
  have B0 := Lib.hid (show Below w.heap.size w w0 by rw [hw0]; exact (Below.refl _ _).alloc (Nat.le_refl _) _)
  have R0 := Lib.hid (show RowI w0 (some ⟨w.heap.size, 0, none⟩) 1 1 [10] by rw [hw0]; exact IntP.row_lit w #[.int .i64 10] [10] 1 rfl rfl (by simp))
  have hnew := Lib.hid (show Calls Try.prog 7 #[.int .i64 5, .slice (some ⟨w.heap.size, 0, none⟩) 1 1, .int .i64 20, .int .i64 2] w0 (RetT w0 (fun b => Off b (some ⟨w.heap.size, 0, none⟩) [(10 : Int)]) tA (fun v => .tuple #[v, .int .i64 0])) from C.new_ok (costs := [10]) tA_ok (by decide) R0.out)
  have heq := eql_c0
  go_enter Try.func11, Try.ntmps11
  go_wp2_with fail
  rw [← hw0]
  clear hw0
  go_at_call 7
  (with_reducible refine hnew.out.mono ?_)
  rintro e w1 ⟨AC, cC, AU, cU, AI, cI, AS, cS, rfl, tr1, hb1, of1⟩
  have B1 := Lib.hid (bt B0.out hb1)
  replace tr1 := Lib.hid tr1
  clear hb1 of1 hnew B0 R0
  obtain ⟨u, hu⟩ : ∃ u, tA = u := ⟨_, rfl⟩
  have huo : u.ok = true := by rw [← hu]; exact tA_tok
  have hul : Len u := by rw [← hu]; exact tA_len
  have hus : u.tick.sends = [⟨0, ⟨5, 0, 5, 0⟩, 0⟩] := by rw [← hu]; exact tA_sends
  rw [hu] at tr1 ⊢
  replace hu := Lib.hid hu
  go_upto_region 2 with fail
  replace B1 := B1.out
  obtain ⟨w2, hw2⟩ : ∃ W, W = w1.alloc (.cells #[.int .i64 u.self.id, .slice AC u.self.costs.length cC, .slice AU u.self.ups.length cU, .slice AI u.self.infos.length cI, .slice AS u.states.length cS, .int .i64 u.mx, .int .i64 u.dl] 29) := ⟨_, rfl⟩
  have bw2 : Below w1.heap.size w1 w2 := by rw [hw2]; exact (Below.refl _ _).alloc (Nat.le_refl _) _
  have Xw2 : Bx w2 w1.heap.size 29 #[.int .i64 u.self.id, .slice AC u.self.costs.length cC, .slice AU u.self.ups.length cU, .slice AI u.self.infos.length cI, .slice AS u.states.length cS, .int .i64 u.mx, .int .i64 u.dl] := by rw [hw2]; exact Bx.new _ _ _ rfl
  rw [← hw2]
  clear hw2
  have R_w2 := Lib.hid (tr1.out.below bw2)
  have A_w2 := Lib.hid (Xw2)
  have B_w2 := bt B1 bw2
  clear tr1 B1 bw2
  have z0_w2 : w1.heap.size < w2.heap.size := Xw2.lt
  clear Xw2
  have htk := Lib.hid (C.tick_ok huo ⟨R_w2.out, hul⟩)
  rw [hus] at htk
  clear huo hul hus
  have o_A_0 := A_w2.out.c (i := 0) rfl
  have o_A_1 := A_w2.out.c (i := 1) rfl
  have o_A_2 := A_w2.out.c (i := 2) rfl
  have o_A_3 := A_w2.out.c (i := 3) rfl
  have o_A_4 := A_w2.out.c (i := 4) rfl
  have o_A_5 := A_w2.out.c (i := 5) rfl
  have o_A_6 := A_w2.out.c (i := 6) rfl
  go_wp2_with fail
  clear o_A_0 o_A_1 o_A_2 o_A_3 o_A_4 o_A_5 o_A_6
  go_at_call 16
  (with_reducible refine (htk.out).mono ?_)
  rintro e w3 ⟨AC2, cC2, AU2, cU2, AI2, cI2, AS2, cS2, AD2, cD2, rfl, tr2, rd2, hb3, of2⟩
  have R_w3 := Lib.hid (R_w2.out.below hb3)
  have A_w3 := Lib.hid (A_w2.out.below hb3)
  have z0_w3 : w1.heap.size < w3.heap.size := Nat.lt_of_lt_of_le z0_w2 hb3.size
  have B_w3 := bt B_w2 hb3
  clear R_w2 A_w2 z0_w2 B_w2 hb3
  clear of2 htk
  go_upto_region 3 with fail
  obtain ⟨w4, hw4⟩ : ∃ W, W = w3.alloc (.cells #[.int .i64 u.tick.self.id, .slice AC2 u.tick.self.costs.length cC2, .slice AU2 u.tick.self.ups.length cU2, .slice AI2 u.tick.self.infos.length cI2, .slice AS2 u.tick.states.length cS2, .int .i64 u.tick.mx, .int .i64 u.tick.dl] 29) := ⟨_, rfl⟩
  have bw4 : Below w3.heap.size w3 w4 := by rw [hw4]; exact (Below.refl _ _).alloc (Nat.le_refl _) _
  have Xw4 : Bx w4 w3.heap.size 29 #[.int .i64 u.tick.self.id, .slice AC2 u.tick.self.costs.length cC2, .slice AU2 u.tick.self.ups.length cU2, .slice AI2 u.tick.self.infos.length cI2, .slice AS2 u.tick.states.length cS2, .int .i64 u.tick.mx, .int .i64 u.tick.dl] := by rw [hw4]; exact Bx.new _ _ _ rfl
  rw [← hw4]
  clear hw4
  have R_w4 := Lib.hid (R_w3.out.below bw4)
  have A_w4 := Lib.hid (A_w3.out.below bw4)
  have hbx9 := bw4
  have A2_w4 := Lib.hid (Xw4)
  have z0_w4 : w1.heap.size < w4.heap.size := Nat.lt_of_lt_of_le z0_w3 bw4.size
  have B_w4 := bt B_w3 bw4
  clear R_w3 A_w3 z0_w3 B_w3 bw4
  have z1_w4 : w3.heap.size < w4.heap.size := Xw4.lt
  clear Xw4
  have hbD := Lib.hid (show RowD w4 AD2 1 cD2 [⟨0, ⟨5, 0, 5, 0⟩, 0⟩] from rd2.below hbx9)
  obtain ⟨bD, oD, rfl, hbd, d0, d1, d2, d3, d4, d5⟩ := SlD.at_ hbD.out.sl (k := 0) rfl
  have hlen1 : (([⟨0, ⟨5, 0, 5, 0⟩, 0⟩] : List Snd).length : Int) = 1 := rfl
  have e0 : oD + 0 * 6 + 1 = oD + 1 := by omega
  have e1 : oD + 0 * 6 + 2 = oD + 2 := by omega
  have e2 : oD + 0 * 6 + 3 = oD + 3 := by omega
  have e3 : oD + 0 * 6 + 4 = oD + 4 := by omega
  have e4 : oD + 0 * 6 + 5 = oD + 5 := by omega
  rw [e0] at d1
  rw [e1] at d2
  rw [e2] at d3
  rw [e3] at d4
  rw [e4] at d5
  clear e0 e1 e2 e3 e4 d0
  go_wp2_with fail
  go_ret
  exact ⟨rfl, B_w4⟩
end Go.Proofs.Ytidoaccidmmalaa.StpP
