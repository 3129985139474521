/-
  bpdu.sumOfShare and bpdu.sum in the program TryQ; the function is passed over.
-/
import Derived.Test.YtlgfogllkoabpaaQb
import Derived.WalkKit
import Derived.WalkSpells
import Derived.IntWalk
import Derived.Lib.Strings
import Derived.Lib.Hide
namespace Go.Proofs.Ytlgfogllkoabpaa.SimP
open Go.Conc Go.RowKit
set_option linter.unusedVariables false
set_option maxRecDepth 100000

theorem index_b (b : ByteArray) (i : Nat) (h : i < b.size) : ∃ x : UInt8, b[i]? = some x ∧ ∀ w, (Instr.index 9 (.string b) (.int .i64 (i : Int))).run TryQ.prog w = .ok (.int .u8 (x.toNat : Int)) w := by
  refine ⟨b[i], by simp [h], fun w => ?_⟩
  have h1 : b[i]? = some b[i] := by simp [h]
  simp [go_sem, Instr.index, h1]
set_option maxHeartbeats 1000000 in
theorem q_share (b : ByteArray) (hb : b.size ≤ 12) (w : World) : Calls TryQ.prog 34 #[.string b] w fun e w' => e = .returned (.int .i64 (psum b b.size)) ∧ w = w' := by
  go_enter TryQ.func34, Try.ntmps34
  go_wp2
  go_loop [3, 7] (fun t i => ∃ k : Nat, k ≤ b.size ∧ i = .int .i64 k ∧ t = .int .i64 (psum b k)) (fun _ i => b.size - (intOf i).toNat)
  case atStart => exact ⟨0, Nat.zero_le _, rfl, rfl⟩
  case round =>
    obtain ⟨k, hk, rfl, rfl⟩ := hrel
    by_cases hlt : k < b.size
    · obtain ⟨x, hx, hix⟩ := index_b b k hlt
      have hs := psum_succ hx
      have hbd := psum_bound b k
      have hx1 : x.toNat < 256 := x.toNat_lt
      generalize psum b k = y at *
      replace hx := Lib.hid hx
      go_wp2
      go_round
      case rel => exact ⟨k + 1, by omega, by go_num, by rw [hs]⟩
      case measure => simp [intOf]; omega
    · go_wp2
      go_ret
      have hk6 : k = b.size := by omega
      subst hk6
      exact ⟨rfl, rfl⟩
set_option maxHeartbeats 1000000 in
theorem q_sum (b : ByteArray) (hb : b.size ≤ 12) (w : World) : Calls TryQ.prog 18 #[.string b] w fun e w' => e = .returned (.int .i64 (psum b b.size)) ∧ w' = eff2 53 60 w := by
  have he : ∀ w, (Op.stringOp .add b ByteArray.empty).run TryQ.prog w = .ok (.string b) w := by
    intro w
    simp [go_sem, Op.stringOp]
    omega
  go_enter TryQ.func18, TryQ.ntmps18
  unfold ownSum
  go_wp2_with fail
  go_at_call 34
  (with_reducible refine (q_share b hb _).mono ?_)
  rintro e w1 ⟨rfl, rfl⟩
  go_wp2_with fail
  go_ret
  exact ⟨rfl, rfl⟩
end Go.Proofs.Ytlgfogllkoabpaa.SimP
