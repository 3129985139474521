/-
  Contracts of bpdu's own small functions over TryQ.
-/
import Derived.Test.YtlgfogllkoabpaaQBpduR
import Derived.Test.YtlgfogllkoabpaaQFrameA
import Derived.Test.YtlgfogllkoabpaaQc
import Derived.StillTailTactics
import Derived.ChangeAlike
namespace Go.Proofs.Ytlgfogllkoabpaa.QMacP
open Go.RowKit Go.Sort
set_option linter.unusedVariables false
set_option maxRecDepth 100000

set_option maxHeartbeats 400000 in
theorem b_within (n m : Int) (w : World) : Calls TryQ.prog 27 #[.int .i64 n, .int .i64 m] w fun e w' => e = .returned (.bool (decide (0 ≤ n) && decide (n ≤ m))) ∧ w = w' := by
  cases c1 : decide (0 ≤ n) <;> cases c2 : decide (n ≤ m)
  all_goals
    go_enter TryQ.func27, Try.ntmps27
    go_wp2_with fail
    go_ret
    exact ⟨rfl, rfl⟩
set_option maxHeartbeats 400000 in
theorem b_addr (b : Int) (w : World) (h0 : 0 ≤ b) (h1 : b ≤ 65535) :
    Calls TryQ.prog 20 #[.int .i64 b] w fun e w' => e = .returned (.int .i64 (2199023321088 + b)) ∧ w = w' := by
  go_enter TryQ.func20, Try.ntmps20
  go_wp2
  go_ret
  exact ⟨rfl, rfl⟩
set_option maxHeartbeats 400000 in
theorem b_number (s : ByteArray) (w : World) (hs : s.size ≤ 6) :
    Calls TryQ.prog 41 #[.string s] w fun e w' => e = .returned (.int .i64 (ofTo (gb s) s.size)) ∧ w = w' := by
  go_enter TryQ.func41, Try.ntmps41
  go_wp2
  go_loop [3, 7] (fun t i => ∃ k : Nat, k ≤ s.size ∧ i = .int .i64 k ∧ t = .int .i64 (ofTo (gb s) k)) (fun _ i => s.size - (intOf i).toNat)
  case atStart => exact ⟨0, Nat.zero_le _, rfl, rfl⟩
  case round =>
    obtain ⟨k, hk, rfl, rfl⟩ := hrel
    by_cases hlt : k < s.size
    · have hbd := ofTo_bd s k
      have hk6 : k < 6 := by omega
      have hpl := pow_le k hk6
      have hg := gb_bd s k
      have hgk := Lib.hid (get_gb s k hlt)
      have hor : Hid (bits .or .i64 (ofTo (gb s) k * 256) (gb s k) = ofTo (gb s) (k + 1)) := Lib.hid (or_256 _ _ hbd.1 hg.1 hg.2 (by omega))
      go_wp2
      go_round
      case rel => exact ⟨k + 1, by omega, by go_num, by rw [hgk.out, IntWalk.wrap64_in _ ⟨by omega, by omega⟩, hor.out]⟩
      case measure => simp [intOf]; omega
    · go_wp2
      go_ret
      have hk6 : k = s.size := by omega
      subst hk6
      exact ⟨rfl, rfl⟩
set_option maxHeartbeats 2000000 in
theorem b_bytes1 (n : Int) (w : World) : Calls TryQ.prog 17 #[.int .i64 n, .int .i64 1] w fun e w' => e = .returned (.string (strOfNums [n % 256])) ∧ Below w.heap.size w w' := by
  have hmk : ∀ w : World, (Instr.makeSlice 36 (.int .i64 1) (.int .i64 1)).run TryQ.prog w = .ok (.slice (some ⟨w.heap.size, 0, none⟩) 1 1) (w.alloc (.cells #[.int .u8 0] 5)) := fun _ => by kernel_rfl
  go_enter TryQ.func17, Try.ntmps17
  go_wp2
  refine wp_loop_rounds 2 ?_
  iterate 1 (rw [rounds_succ]; go_wp2)
  rw [rounds_succ]
  go_wp2
  rw [run_convert_bytes_arg _ 36 5 TryQ.underlying36 TryQ.underlying5 w.heap.size 0 1 1 [n % 256] rfl (by
    intro i hi
    match i, hi with
    | 0, _ => go_simp) 9 TryQ.underlying9]
  go_wp2
  go_ret
  exact ⟨rfl, (Below.refl _ _).alloc (Nat.le_refl _) _⟩
set_option maxHeartbeats 2000000 in
theorem b_bytes2 (n : Int) (w : World) : Calls TryQ.prog 17 #[.int .i64 n, .int .i64 2] w fun e w' => e = .returned (.string (strOfNums [n / 256 % 256, n % 256])) ∧ Below w.heap.size w w' := by
  have hmk : ∀ w : World, (Instr.makeSlice 36 (.int .i64 2) (.int .i64 2)).run TryQ.prog w = .ok (.slice (some ⟨w.heap.size, 0, none⟩) 2 2) (w.alloc (.cells #[.int .u8 0, .int .u8 0] 5)) := fun _ => by kernel_rfl
  go_enter TryQ.func17, Try.ntmps17
  go_wp2
  refine wp_loop_rounds 3 ?_
  iterate 2 (rw [rounds_succ]; go_wp2)
  rw [rounds_succ]
  go_wp2
  rw [run_convert_bytes_arg _ 36 5 TryQ.underlying36 TryQ.underlying5 w.heap.size 0 2 2 [n / 256 % 256, n % 256] rfl (by
    intro i hi
    match i, hi with
    | 0, _ => go_simp
    | 1, _ => go_simp) 9 TryQ.underlying9]
  go_wp2
  go_ret
  exact ⟨rfl, (Below.refl _ _).alloc (Nat.le_refl _) _⟩
set_option maxHeartbeats 2000000 in
theorem b_bytes4 (n : Int) (w : World) : Calls TryQ.prog 17 #[.int .i64 n, .int .i64 4] w fun e w' => e = .returned (.string (strOfNums [n / 16777216 % 256, n / 65536 % 256, n / 256 % 256, n % 256])) ∧ Below w.heap.size w w' := by
  have hmk : ∀ w : World, (Instr.makeSlice 36 (.int .i64 4) (.int .i64 4)).run TryQ.prog w = .ok (.slice (some ⟨w.heap.size, 0, none⟩) 4 4) (w.alloc (.cells #[.int .u8 0, .int .u8 0, .int .u8 0, .int .u8 0] 5)) := fun _ => by kernel_rfl
  go_enter TryQ.func17, Try.ntmps17
  go_wp2
  refine wp_loop_rounds 5 ?_
  iterate 4 (rw [rounds_succ]; go_wp2)
  rw [rounds_succ]
  go_wp2
  rw [run_convert_bytes_arg _ 36 5 TryQ.underlying36 TryQ.underlying5 w.heap.size 0 4 4 [n / 16777216 % 256, n / 65536 % 256, n / 256 % 256, n % 256] rfl (by
    intro i hi
    match i, hi with
    | 0, _ => go_simp
    | 1, _ => go_simp
    | 2, _ => go_simp
    | 3, _ => go_simp) 9 TryQ.underlying9]
  go_wp2
  go_ret
  exact ⟨rfl, (Below.refl _ _).alloc (Nat.le_refl _) _⟩
end Go.Proofs.Ytlgfogllkoabpaa.QMacP
