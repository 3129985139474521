/-
  Contracts of footwayref11: Roles, Tell.
-/
import Derived.Test.YtdnpcpehjjildaaRoleZ
namespace Go.Proofs.Ytdnpcpehjjildaa.RoleP
open Go.RowKit Go.Sort Go.Proofs.Ytdnpcpehjjildaa.SliceP Go.Proofs.Ytdnpcpehjjildaa.BoxP Go.Proofs.Ytdnpcpehjjildaa.VecP
open Go.Proofs.Ytdnpcpehjjildaa.IntP (RowI SlI OwnI)
open Go.Proofs.Ytdnpcpehjjildaa.BoolP (RowB SlB)
set_option linter.unusedVariables false
set_option maxRecDepth 100000
theorem role_to {s : S} {AC : Option Addr} {cC : Nat} {AU : Option Addr} {cU : Nat} {AI : Option Addr} {cI : Nat} {w : World} (hF : Fit s) (hS : SelfR w s AC cC AU cU AI cI) {p : Nat} (hp : p < s.costs.length) {n : Int} (e : s.role p = n) : Calls Try.prog 29 #[selfV s.id (.slice AC s.costs.length cC) (.slice AU s.ups.length cU) (.slice AI s.infos.length cI), .int .i64 p] w fun e w' => e = .returned (.int .i64 n) ∧ Below w.heap.size w w' := by
  subst e; exact r_role hF hS hp
set_option maxHeartbeats 16000000 in
theorem r_roles {s : S} {AC : Option Addr} {cC : Nat} {AU : Option Addr} {cU : Nat} {AI : Option Addr} {cI : Nat} {w : World} (hF : Fit s) (hS : SelfR w s AC cC AU cU AI cI) :
    Calls Try.prog 17 #[selfV s.id (.slice AC s.costs.length cC) (.slice AU s.ups.length cU) (.slice AI s.infos.length cI)] w fun e w' => ∃ A c, e = .returned (.slice A s.roles.length c) ∧ OwnI w' w.heap.size (.slice A s.roles.length c) s.roles ∧ Below w.heap.size w w' := by
  obtain ⟨w0, hw0⟩ : ∃ W, W = w.alloc (.cells #[.int .i64 s.id, .slice AC s.costs.length cC, .slice AU s.ups.length cU, .slice AI s.infos.length cI] 26) := ⟨_, rfl⟩
  have I := Lib.hid (show InS w w0 s AC cC AU cU AI cI by rw [hw0]; exact .new hS)
  have hz0 := I.out.x.lt
  have B0 := I.out.b
  have hm1 : s.costs.length ≤ 8 := hF.len.1.2
  replace hF := Lib.hid hF
  clear hS
  obtain ⟨w2, hw2⟩ : ∃ W, W = w0.alloc (.cells #[] 3) := ⟨_, rfl⟩
  have b2 : Below w0.heap.size w0 w2 := by rw [hw2]; exact (Below.refl _ _).alloc (Nat.le_refl _) _
  have I2 := Lib.hid (I.out.below b2)
  have O2 := Lib.hid (show OwnI w2 w0.heap.size (.slice (some ⟨w0.heap.size, 0, none⟩) 0 0) [] by rw [hw2]; exact IntP.own_lit w0 #[] [] w0.heap.size 0 (Nat.le_refl _) rfl rfl (by simp))
  have B2 := Lib.hid b2
  have e0 := Lib.hid (show w.heap.size + 1 = w0.heap.size by rw [hw0]; simp)
  go_enter Try.func17, Try.ntmps17
  go_upto_region 2 with fail
  rw [e0.out, ← hw0, ← hw2]
  clear hw0 hw2 b2
  obtain ⟨o_I_0, o_I_1, o_I_2, o_I_3, hol⟩ := I2.out.cells
  go_wp2_with fail
  clear o_I_0 o_I_1 o_I_2 o_I_3 hol
  go_loopw [3, 9] (fun v3 i wr => ∃ (k : Nat) (L : List Int), k ≤ s.costs.length ∧ i = .int .i64 k ∧ L = (List.range k).map s.role ∧ OwnI wr w0.heap.size v3 L ∧ Below w0.heap.size w0 wr) (fun _ i _ => s.costs.length - (intOf i).toNat)
  case atStart => exact ⟨0, [], by omega, rfl, rfl, O2.out, B2.out⟩
  case round =>
    clear O2 I2 B2
    obtain ⟨k, L, hk, rfl, hL, hown, hb⟩ := hrel
    have Ir := Lib.hid (I.out.below hb)
    obtain ⟨A3, c3, hv3⟩ := IntP.OwnI.form' hown
    subst hv3
    by_cases hkn : k < s.costs.length
    · obtain ⟨r, hr⟩ : ∃ r, s.role k = r := ⟨_, rfl⟩
      obtain ⟨o_I_0, o_I_1, o_I_2, o_I_3, hol⟩ := Ir.out.cells
      have hlen : L.length = k := by rw [hL]; simp
      have cR := Lib.hid (role_to (w := wr) hF.out Ir.out.r hkn hr)
      have hsn := Lib.hid (show L ++ [r] = (List.range (k + 1)).map s.role by rw [List.range_succ, List.map_append, ← hr, hL]; rfl)
      replace hown := Lib.hid hown
      replace hr := Lib.hid hr
      replace hb := Lib.hid hb
      replace hlen := Lib.hid hlen
      replace hL := Lib.hid hL
      go_wp2_with fail
      go_at_call 29
      (with_reducible refine cR.out.mono ?_)
      rintro e w3 ⟨rfl, hb3⟩
      have own3 := Lib.hid (Own.below hown.out hb3)
      have b3 := Lib.hid (bt hb.out hb3)
      have b31 := Lib.hid ((b3.out).alloc b3.out.size (.cells #[.int .i64 r] 3))
      have own2 := Lib.hid (Own.below own3.out ((Below.refl w3.heap.size w3).alloc (Nat.le_refl _) (.cells #[.int .i64 r] 3)))
      have hn1 : Hid ((IntP.cI L).length + (IntP.cI [r]).length ≤ 1000000) := Lib.hid (by rw [IntP.cI_length, IntP.cI_length, hlen.out]; simp; omega)
      have hB2 : Hid (w0.heap.size ≤ (w3.alloc (.cells #[.int .i64 r] 3)).heap.size) := Lib.hid b31.out.size
      have hsl := Lib.hid (IntP.SlI.one w3 r w3.heap.size rfl)
      have hvl : Hid ((IntP.cI L).length = L.length) := Lib.hid (IntP.cI_length L)
      clear hb3 o_I_0 o_I_1 o_I_2 o_I_3 hol Ir hown hb cR
      go_wp2_with (at_builtin; (refine wpList_append_sl rfl (.tmp 12) (.tmp 16) 22 rfl IntP.elI (by rfl) own2.out (by rfl) (by rfl) hsl.out (IntP.whole [r]) (fun h => by cases h) hn1.out hB2.out ?_); intro v' w4 own1 grow1 _)
      have b4 : Below w0.heap.size w0 w4 := b31.out.grown grow1 b31.out.size (fun j hj => (own2.out.lt j hj).1)
      go_roundw
      case rel => exact ⟨k + 1, L ++ [r], by omega, by go_num, hsn.out, by unfold IntP.OwnI; rw [IntP.cI_append]; exact own1, b4⟩
      case measure => simp [intOf]; omega
    · obtain rfl : k = s.costs.length := by omega
      obtain ⟨o_I_0, o_I_1, o_I_2, o_I_3, hol⟩ := Ir.out.cells
      have hroles : L = s.roles := hL
      clear hL
      subst hroles
      replace hown := Lib.hid hown
      have hbb := Lib.hid (bt B0 hb)
      go_wp2_with fail
      go_ret
      exact ⟨A3, c3, rfl, Own.base hown.out (Nat.le_of_lt hz0), hbb.out⟩
end Go.Proofs.Ytdnpcpehjjildaa.RoleP
