/-
  QueueOrder, of any script.
-/
import Derived.Test.YtimpngmmmoaejaaQueueW
namespace Go.Proofs.Ytimpngmmmoaejaa.ChanP
open Go.RowKit Go.Sort Go.Conc Go.Proofs.Ytimpngmmmoaejaa.SliceP Go.Proofs.Ytimpngmmmoaejaa.BoxP Go.Proofs.Ytimpngmmmoaejaa.StrP
set_option linter.unusedVariables false
set_option maxRecDepth 100000
set_option maxHeartbeats 16000000 in
theorem order_nil (n0 : Int) {w : World} : Calls Try.prog 4 #[.int .i64 n0, .slice none 0 0] w (IntP.True1 w) := by
  obtain ⟨s1, s2⟩ := modw_bd n0 8 (by omega) (by omega)
  obtain ⟨nx, hnx⟩ : ∃ x, (wrap64 (n0.tmod 8 + 8)).tmod 8 = x := ⟨_, rfl⟩
  rw [hnx] at s1 s2
  obtain ⟨n, hnw⟩ : ∃ x, 1 + nx = x := ⟨_, rfl⟩
  have hn : 1 ≤ n ∧ n ≤ 8 := by omega
  obtain ⟨h1, h8⟩ := hn
  have hq := Lib.hid (show (decide (1 ≤ n) && decide (n ≤ 32)) = true by simp; omega)
  go_enter Try.func4, Try.ntmps4
  go_wp2_with fail
  go_at_call 6
  (with_reducible refine (q_new_yes n _ hq.out).mono ?_)
  rintro e w1 ⟨rfl, hb1⟩
  go_wp2_with fail
  obtain ⟨w2, hw2⟩ : ∃ W, W = w1.alloc (qo n (.slice none 0 0) 0) := ⟨_, rfl⟩
  have B2 := Lib.hid (show Below w.heap.size w w2 by rw [hw2]; exact hb1.alloc hb1.size _)
  rw [← hw2]
  clear hw2
  go_loopw [39] (fun i wr => i = .int .i64 0 ∧ wr = w2) (fun _ _ => 0)
  case atStart => exact ⟨rfl, rfl⟩
  case round =>
    obtain ⟨rfl, rfl⟩ := hrel
    go_wp2_with fail
    go_at_call 12
    (with_reducible refine (alive_any _).mono ?_)
    rintro e w4 ⟨rfl, hb4⟩
    go_wp2_with fail
    go_ret
    exact ⟨rfl, bt B2.out hb4⟩
theorem order_law (n : Int) (v : Value) {w : World} (_h0 : (Lit.int .i64 n).wf = true) (h : IntP.InI w v) : Calls Try.prog 4 #[.int .i64 n, v] w (IntP.True1 w) := by
  rcases h with rfl | ⟨a, L, cap, rfl, h1, h2, h3⟩
  · exact order_nil n
  · exact order_some n a L L.length cap rfl h1 h2 h3
end Go.Proofs.Ytimpngmmmoaejaa.ChanP
