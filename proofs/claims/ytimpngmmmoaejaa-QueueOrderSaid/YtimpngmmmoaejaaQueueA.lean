/-
  Contracts of queue: isCap, lineOf.
-/
import Derived.Test.YtimpngmmmoaejaaChan
import Derived.Test.YtimpngmmmoaejaaQueueP
import Derived.Deep.Cut
namespace Go.Proofs.Ytimpngmmmoaejaa.ChanP
open Go.RowKit Go.Sort Go.Conc Go.Proofs.Ytimpngmmmoaejaa.SliceP Go.Proofs.Ytimpngmmmoaejaa.BoxP Go.Proofs.Ytimpngmmmoaejaa.StrP
set_option linter.unusedVariables false
set_option maxRecDepth 100000

set_option maxHeartbeats 4000000 in
theorem is_cap (n : Int) (w : World) : Calls Try.prog 17 #[.int .i64 n] w fun e w' => e = .returned (.bool (decide (1 ≤ n) && decide (n ≤ 32))) ∧ w = w' := by
  go_enter Try.func17, Try.ntmps17
  cases h1 : decide (1 ≤ n) <;> cases h2 : decide (n ≤ 32)
  all_goals
    go_wp2_with fail
    go_ret
    exact ⟨rfl, rfl⟩
theorem mkS (n : Nat) (hn : n ≤ 1000000) (w : World) : (Instr.makeChan 53 (.int .i64 n)).run Try.prog w = .ok (.chan (some w.heap.size)) (w.alloc (.chan n #[] false 0 0 false)) := by
  have h : (Try.prog.info? 9).map (·.bytes) = some 16 := by kernel_rfl
  obtain ⟨i, hi, hb⟩ := Option.map_eq_some_iff.1 h
  simpa using run_makeChan (P := Try.prog) (w := w) Try.underlying53 hi .i64 n (by omega) (by rw [hb]; omega)
set_option maxHeartbeats 4000000 in
theorem line_of {A : Option Addr} {n c : Nat} {l : List ByteArray} (cap lost : Int) {w : World} (ht : RowS w A n c l) (hs : l.length ≤ 100000) :
    Calls Try.prog 20 #[qv cap (.slice A n c) lost] w fun e w' => ∃ b, e = .returned (.chan (some b)) ∧ w.heap.size ≤ b ∧ ChS w' b l ∧ Below w.heap.size w w' := by
  obtain rfl := ht.len
  obtain ⟨w0, hw0⟩ : ∃ W, W = (w.alloc (qo cap (.slice A l.length c) lost)).alloc (.chan l.length #[] false 0 0 false) := ⟨_, rfl⟩
  obtain ⟨b, hbe⟩ : ∃ b, b = w.heap.size + 1 := ⟨_, rfl⟩
  have B0 := Lib.hid (show Below w.heap.size w w0 by rw [hw0]; exact ((Below.refl _ _).alloc (Nat.le_refl _) _).alloc (by simp) _)
  have Y := Lib.hid (show w0.heap[b]? = some (.chan l.length (strs []) false 0 0 false) by rw [hw0, hbe, show w.heap.size + 1 = (w.alloc (qo cap (.slice A l.length c) lost)).heap.size by simp]; exact heap_alloc_new _ _)
  have hbw := Lib.hid (show w.heap.size ≤ b by omega)
  have hmk := mkS l.length (by omega)
  have H := Lib.hid ht
  have e1 := Lib.hid hbe
  clear ht
  go_enter Try.func20, Try.ntmps20
  go_wp2_with fail
  rw [← e1.out, ← hw0]
  clear hbe hw0 hmk
  go_loopw [13] (fun i wr => ∃ k : Nat, k ≤ l.length ∧ i = .int .i64 k ∧ Below w.heap.size w wr ∧ wr.heap[b]? = some (.chan l.length (strs (l.take k)) false k 0 false)) (fun i _ => l.length - (intOf i).toNat)
  case atStart => exact ⟨0, by omega, rfl, B0.out, Y.out⟩
  case round =>
    obtain ⟨k, hk, rfl, hb, hch⟩ := hrel
    by_cases hlk : k < l.length
    · obtain ⟨x, hx⟩ : ∃ x, l[k]? = some x := ⟨_, List.getElem?_eq_getElem hlk⟩
      obtain ⟨b', o', rfl, hbw', x0⟩ := SlS.at_ (H.out.below hb).sl hx
      have hroom := Lib.hid (show (strs (l.take k)).size < l.length by rw [strs_size, List.length_take]; omega)
      have hpush := Lib.hid (show (strs (l.take k)).push (.string x) = strs (l.take (k + 1)) by rw [strs_push, List.take_add_one, hx]; rfl)
      replace hb := Lib.hid hb
      replace hch := Lib.hid hch
      clear hx
      go_upto_region 5 with fail
      refine wp_region_at ?_
      refine AtOps.move rfl rfl rfl ?_
      refine AtOps.move rfl rfl rfl ?_
      refine AtOps.send rfl rfl rfl rfl hch.out hroom.out ?_
      refine AtOps.nil ?_
      go_wp2_with fail
      go_roundw
      case rel =>
        rw [hpush.out]
        exact ⟨k + 1, by omega, by go_num, below_setChan hb.out hbw.out _ _ _ _ _ _, heap_setChan _ _ _ _ _ _ _ _ (Array.getElem?_eq_some_iff.1 hch.out).1⟩
      case measure => simp [intOf]; omega
    · obtain rfl : k = l.length := by omega
      have hcl := fun ats ty => run_close_open (P := Try.prog) ats ty hch
      rw [List.take_length] at hch
      replace hb := Lib.hid hb
      replace hch := Lib.hid hch
      go_wp2_with fail
      go_ret
      exact ⟨b, rfl, hbw.out, ⟨_, _, _, heap_setChan wr b l.length (strs l) true l.length 0 false (Array.getElem?_eq_some_iff.1 hch.out).1⟩, below_setChan hb.out hbw.out l.length (strs l) true l.length 0 false⟩
end Go.Proofs.Ytimpngmmmoaejaa.ChanP
