/-
  Contract of role.Roles.
-/
import Derived.Test.YtdnpcpehjjildaaRoleIE
import Derived.Test.YtdnpcpehjjildaaRoleC
namespace Go.Proofs.Ytdnpcpehjjildaa.RoleP
open Go.Proofs.Ytdnpcpehjjildaa.MacP (arr_out Wrote)
open Go.RowKit Go.Sort Go.Proofs.Ytdnpcpehjjildaa.SliceP Go.Proofs.Ytdnpcpehjjildaa.BoxP Go.Proofs.Ytdnpcpehjjildaa.VecP
open Go.Proofs.Ytdnpcpehjjildaa.IntP (RowI SlI OwnI)
open Go.Proofs.Ytdnpcpehjjildaa.BoolP (RowB SlB)
set_option linter.unusedVariables false
set_option maxRecDepth 100000
/-- The roles of the first k; zeros behind them. -/
def S.part (s : S) (k : Nat) : List Int := s.roles.take k ++ List.replicate (s.costs.length - k) 0
def S.row (s : S) (k : Nat) : Array Value := ((s.part k).map (Value.int .i64)).toArray
theorem mk_ints (n : Nat) (h : n ≤ 8) (w : World) : (Instr.makeSlice 22 (.int .i64 n) (.int .i64 n)).run Try.prog w = .ok (.slice (some ⟨w.heap.size, 0, none⟩) n n) (w.alloc (.cells (Array.replicate n (.int .i64 0)) 3)) := by
  obtain rfl | rfl | rfl | rfl | rfl | rfl | rfl | rfl | rfl : n = 0 ∨ n = 1 ∨ n = 2 ∨ n = 3 ∨ n = 4 ∨ n = 5 ∨ n = 6 ∨ n = 7 ∨ n = 8 := by omega
  all_goals kernel_rfl
theorem roles_len' (s : S) : s.roles.length = s.costs.length := by unfold S.roles; simp
theorem part_len (s : S) {k : Nat} (h : k ≤ s.costs.length) : (s.part k).length = s.costs.length := by unfold S.part; rw [List.length_append, List.length_take, List.length_replicate, roles_len']; omega
theorem row_zero (s : S) : s.row 0 = Array.replicate s.costs.length (.int .i64 0) := by unfold S.row S.part; simp
theorem part_all (s : S) : s.part s.costs.length = s.roles := by unfold S.part; rw [Nat.sub_self, List.take_of_length_le (by rw [roles_len']; omega)]; simp
theorem role_at (s : S) {k : Nat} (h : k < s.costs.length) : s.roles[k]? = some (s.role k) := by unfold S.roles; rw [List.getElem?_map, List.getElem?_range h]; rfl
theorem part_step (s : S) {k : Nat} (h : k < s.costs.length) : (s.part k).set k (s.role k) = s.part (k + 1) := by
  have hl : (s.roles.take k).length = k := by rw [List.length_take, roles_len']; omega
  unfold S.part
  rw [List.set_append_right _ _ (by omega), hl, Nat.sub_self]
  obtain ⟨m, hm⟩ : ∃ m, s.costs.length - k = m + 1 := ⟨s.costs.length - k - 1, by omega⟩
  rw [hm, List.replicate_succ, List.set_cons_zero, show s.costs.length - (k + 1) = m by omega, List.take_add_one, role_at s h]
  simp
theorem row_step (s : S) {k : Nat} (h : k < s.costs.length) : (s.row k).setIfInBounds k (.int .i64 (s.role k)) = s.row (k + 1) := by
  unfold S.row
  rw [← part_step s h]
  simp [List.map_set]
theorem row_get (s : S) {k i : Nat} (hk : k ≤ s.costs.length) (h : i < s.costs.length) : ∃ v, (s.row k)[i]? = some v := by
  unfold S.row
  exact ⟨_, Array.getElem?_eq_getElem (by simp [part_len s hk]; exact h)⟩
set_option maxHeartbeats 8000000 in
theorem o_roles_no {s : S} {AC : Option Addr} {cC : Nat} {AU : Option Addr} {cU : Nat} {AI : Option Addr} {cI : Nat} {w : World} (hok : s.ok = false) (hl : s.costs.length ≤ 1000 ∧ s.ups.length ≤ 1000 ∧ s.infos.length ≤ 1000) (hS : SelfR w s AC cC AU cU AI cI) : Calls Try.prog 9 #[selfV s.id (.slice AC s.costs.length cC) (.slice AU s.ups.length cU) (.slice AI s.infos.length cI)] w fun e w' => ∃ A c, e = .returned (.tuple #[.slice A 0 c, .int .i64 1]) ∧ Below w.heap.size w w' := by
  obtain ⟨w0, hw0⟩ : ∃ W, W = w.alloc (.cells #[.int .i64 s.id, .slice AC s.costs.length cC, .slice AU s.ups.length cU, .slice AI s.infos.length cI] 26) := ⟨_, rfl⟩
  have I := Lib.hid (show InS w w0 s AC cC AU cU AI cI by rw [hw0]; exact .new hS)
  have hz0 := I.out.x.lt
  have B0 := I.out.b
  clear hS
  replace hok := Lib.hid hok
  replace hl := Lib.hid hl
  go_enter Try.func9, Try.ntmps9
  go_wp2_with fail
  rw [← hw0]
  clear hw0
  go_at_call 11
  (with_reducible refine (o_right_to hok.out hl.out I.out.r).mono ?_)
  rintro e w1 ⟨rfl, hb1⟩
  have I_w1 := Lib.hid (I.out.below hb1)
  have z0_w1 : w.heap.size < w1.heap.size := Nat.lt_of_lt_of_le hz0 hb1.size
  have B_w1 := bt B0 hb1
  clear I hz0 B0 hb1
  have B9 := Lib.hid B_w1
  go_wp2_with fail
  go_ret2
  exact ⟨none, 0, by rfl, B9.out⟩
set_option maxHeartbeats 16000000 in
theorem o_roles_ok {s : S} {AC : Option Addr} {cC : Nat} {AU : Option Addr} {cU : Nat} {AI : Option Addr} {cI : Nat} {w : World} (hok : s.ok = true) (hl : s.costs.length ≤ 1000 ∧ s.ups.length ≤ 1000 ∧ s.infos.length ≤ 1000) (hS : SelfR w s AC cC AU cU AI cI) : Calls Try.prog 9 #[selfV s.id (.slice AC s.costs.length cC) (.slice AU s.ups.length cU) (.slice AI s.infos.length cI)] w fun e w' => ∃ A c, e = .returned (.tuple #[.slice A s.roles.length c, .int .i64 0]) ∧ RowI w' A s.roles.length c s.roles ∧ Below w.heap.size w w' := by
  have hF := Lib.hid (Fit.mk hok)
  obtain ⟨w0, hw0⟩ : ∃ W, W = w.alloc (.cells #[.int .i64 s.id, .slice AC s.costs.length cC, .slice AU s.ups.length cU, .slice AI s.infos.length cI] 26) := ⟨_, rfl⟩
  have I := Lib.hid (show InS w w0 s AC cC AU cU AI cI by rw [hw0]; exact .new hS)
  have hz0 := I.out.x.lt
  have B0 := I.out.b
  have hm1 : s.costs.length ≤ 8 := hF.out.len.1.2
  obtain ⟨R, hR⟩ : ∃ v, wayV s s.root = v := ⟨_, rfl⟩
  replace hR := Lib.hid hR
  clear hS
  replace hok := Lib.hid hok
  replace hl := Lib.hid hl
  go_enter Try.func9, Try.ntmps9
  go_wp2_with fail
  rw [← hw0]
  clear hw0
  go_at_call 11
  (with_reducible refine (o_right_to hok.out hl.out I.out.r).mono ?_)
  rintro e w1 ⟨rfl, hb1⟩
  have I_w1 := Lib.hid (I.out.below hb1)
  have z0_w1 : w.heap.size < w1.heap.size := Nat.lt_of_lt_of_le hz0 hb1.size
  have B_w1 := bt B0 hb1
  clear I hz0 B0 hb1
  have o_I_0 := I_w1.out.c (i := 0) rfl
  have o_I_1 := I_w1.out.c (i := 1) rfl
  have o_I_2 := I_w1.out.c (i := 2) rfl
  have o_I_3 := I_w1.out.c (i := 3) rfl
  go_wp2_with fail
  clear o_I_0 o_I_1 o_I_2 o_I_3
  go_at_call 22
  (with_reducible refine (o_rw_to hF.out I_w1.out.r hR.out).mono ?_)
  rintro e w2 ⟨rfl, hb2⟩
  have I_w2 := Lib.hid (I_w1.out.below hb2)
  have z0_w2 : w.heap.size < w2.heap.size := Nat.lt_of_lt_of_le z0_w1 hb2.size
  have B_w2 := bt B_w1 hb2
  clear I_w1 z0_w1 B_w1 hb2
  have o_I_0 := I_w2.out.c (i := 0) rfl
  have o_I_1 := I_w2.out.c (i := 1) rfl
  have o_I_2 := I_w2.out.c (i := 2) rfl
  have o_I_3 := I_w2.out.c (i := 3) rfl
  have hmk := mk_ints s.costs.length hm1
  go_upto_region 5 with fail
  clear o_I_0 o_I_1 o_I_2 o_I_3
  rw [← row_zero s]
  obtain ⟨w9, hw9⟩ : ∃ W, W = w2.alloc (.cells (s.row 0) 3) := ⟨_, rfl⟩
  have b9 : Below w2.heap.size w2 w9 := by rw [hw9]; exact (Below.refl _ _).alloc (Nat.le_refl _) _
  have X9 := Lib.hid (show Bx w9 w2.heap.size 3 (s.row 0) by rw [hw9]; exact Bx.new _ _ _ rfl)
  rw [← hw9]
  clear hw9 hmk
  go_wp2_with fail
  go_loopw [18] (fun i wr => ∃ k : Nat, k ≤ s.costs.length ∧ i = .int .i64 k ∧ Below w2.heap.size w2 wr ∧ Bx wr w2.heap.size 3 (s.row k)) (fun i _ => s.costs.length - (intOf i).toNat)
  case atStart => exact ⟨0, by omega, rfl, b9, X9.out⟩
  case round =>
    clear X9 b9
    obtain ⟨k, hk, rfl, hb, X⟩ := hrel
    by_cases hkn : k < s.costs.length
    · have hkl : (k : Int) < (s.costs.length : Int) := by omega
      have I := Lib.hid (I_w2.out.below hb)
      have z0 := I.out.x.lt
      have hkn' := Lib.hid hkn
      have hb' := Lib.hid hb
      have X' := Lib.hid X
      clear hb X hkn
      obtain ⟨rl, hrl⟩ : ∃ v, s.role k = v := ⟨_, rfl⟩
      replace hrl := Lib.hid hrl
      have o0 := I.out.c (i := 0) rfl
      have o1 := I.out.c (i := 1) rfl
      have o2 := I.out.c (i := 2) rfl
      have o3 := I.out.c (i := 3) rfl
      go_wp2_with fail
      clear o0 o1 o2 o3 z0
      go_at_call 24
      (with_reducible refine (o_role_to hF.out I.out.r hkn'.out hR.out hrl.out).mono ?_)
      rintro e w10 ⟨rfl, hb10⟩
      have hb2 := Lib.hid (bt hb'.out hb10)
      have X2 := Lib.hid (X'.out.below hb10)
      clear hb10 X' hb' I
      obtain ⟨v0, hv0⟩ := row_get s hk hkn'.out
      have g0 := X2.out.c hv0
      have f0 := X2.out.f k
      have hxl := X2.out.lt
      replace hv0 := Lib.hid hv0
      go_wp2_with fail
      go_roundw
      case rel => exact ⟨k + 1, by have := hkn'.out; omega, by go_num, hb2.out.setCell (Nat.le_refl _) _, by have h := row_step s hkn'.out; rw [hrl.out] at h; have := X2.out.set k (.int .i64 rl); rwa [h] at this⟩
      case measure => simp [intOf]; omega
    · have ek : k = s.costs.length := by omega
      subst ek
      replace X := Lib.hid X
      replace hb := Lib.hid (show Below w.heap.size w wr from bt B_w2 hb)
      go_wp2_with fail
      go_ret2
      refine ⟨some ⟨w2.heap.size, 0, none⟩, s.costs.length, by rw [roles_len']; rfl, ?_, hb.out⟩
      have hx := X.out
      unfold S.row at hx
      rw [part_all] at hx
      exact ⟨rfl, RoleP.Bx.sl hx (by rw [IntP.cI_flat]) (fun c hc => by obtain ⟨x, _, rfl⟩ := List.mem_map.1 hc; rfl), by rw [roles_len']; exact Nat.le_refl _, fun e => by cases e⟩
end Go.Proofs.Ytdnpcpehjjildaa.RoleP
