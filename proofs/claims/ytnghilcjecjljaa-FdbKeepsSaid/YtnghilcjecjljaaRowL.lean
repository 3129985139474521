/-
  append of zero values to an empty slice without room; a law on a region of which the last operation alone writes. Of no program but for names.
-/
import Derived.Test.YtnghilcjecjljaaRowK
namespace Go.Proofs.Ytnghilcjecjljaa.SliceP
open Go.RowKit
set_option linter.unusedVariables false
section
variable {e : TypeId} {size : Nat}
theorem zeros_two (z : Array Value) (n m : Nat) (hz : 0 < z.size) : Builtin.zeroCells z n ++ Builtin.zeroCells z m = flatA (List.replicate (n + m) z.toList) := by
  apply Array.toList_inj.1
  rw [Array.toList_append, zero_flat z n hz, zero_flat z m hz]
  unfold flatA
  rw [← List.flatten_append, List.replicate_append_replicate]
theorem run_append_zeros {P : Program} {t ti ty : TypeId} (E : ElemT P t e size) (hti : P.underlying ti = some (.int .i64)) {z : Value} (hzv : ∀ w, (zeroValue e).run P w = .ok z w) (a : Addr) (c n : Nat) (hcn : c < n) (hn : n ≤ 2000000) (w : World) :
    ∃ cap w', (Builtin.append_ #[t, ti] ty #[.slice (some a) 0 c, .int .i64 n]).run P w = .ok (.slice (some ⟨w.heap.size, 0, none⟩) n cap) w' ∧ Blk w' w.heap.size e (List.replicate cap z.cells.toList) ∧ Below w.heap.size w w' ∧ n ≤ cap := by
  obtain ⟨i, z', hi, hz, hsz, hby, hzs⟩ := E.inf
  have hzz : z' = z := by
    have := hzv w
    simp [zeroValue, typeInfo, hi, hz] at this
    exact this
  subst hzz
  have hb : n * i.bytes ≤ 2000000 * 64 := Nat.mul_le_mul hn hby
  have hb2 : (n : Int) * (i.bytes : Int) ≤ 128000000 := by
    have : ((n * i.bytes : Nat) : Int) ≤ 128000000 := by omega
    rwa [Int.natCast_mul] at this
  have hge := grownCap_ge w n c e
  have hn' : n ≠ 0 := by omega
  have w1 : IntKind.i64.wrap (n : Int) = n := IntWalk.i64_in _ (by omega)
  have w2 : ¬ ((n : Int) < 0) := by omega
  have w3 : ¬ (281474976710656 < (n : Int) * (i.bytes : Int)) := by omega
  have w4 : ¬ (9223372036854775807 < (n : Int)) := by omega
  have w5 : ¬ (281474976710656 < Builtin.nextslicecap n c * i.bytes) := by have := growslice_fits (bytes := i.bytes) hcn (by omega); omega
  have w6 : ¬ (n ≤ c) := by omega
  have hl : (loadCells a 0).run P w.drew = .ok #[] w.drew := by simpa using run_loadCells_list (P := P) w.drew a [] (by simp)
  refine ⟨grownCap w n c e, w.drew.alloc (.cells (Builtin.zeroCells z'.cells n ++ Builtin.zeroCells z'.cells (grownCap w n c e - n)) e), ?_, ?_, (Below.refl _ _).drew.alloc (Nat.le_refl _) _, hge⟩
  · simp [Builtin.append_, run_underlying E.und, run_underlying hti, sizeOf, typeInfo, zeroValue, hi, hz, hsz, w1, w2, w3, w4, w5, w6, asInt, asIntOf, Builtin.firstCells, Question.forced, newRow, grownCap, hl]
    try (intro hh; exact absurd hh (Nat.ne_of_gt (Nat.mul_pos (by omega) E.pos)))
  · rw [zeros_two _ _ _ (by rw [hzs]; exact E.pos), show n + (grownCap w n c e - n) = grownCap w n c e by omega]
    exact Blk.new w.drew _ _
end
end Go.Proofs.Ytnghilcjecjljaa.SliceP
