/-
  Contracts of footwayref09: Rows, Same, Right, Clear.
-/
import Derived.Test.YtimpngmmmoaejaaStrs
import Derived.Lib.QuietBelow
import Derived.LoopTactic
namespace Go.Proofs.Ytimpngmmmoaejaa.StrP
open Go.RowKit Go.Sort Go.Proofs.Ytimpngmmmoaejaa.SliceP
set_option linter.unusedVariables false
set_option maxRecDepth 100000

theorem neqS (x : ByteArray) (w : World) : (binOp .neq 9 (.string x) (.string x)).run Try.prog w = .ok (.bool false) w := by
  simp [binOp, go_sem, Op.stringOp]
set_option maxHeartbeats 8000000 in
theorem r_rows {A A' : Option Addr} {n n' c c' : Nat} {l : List ByteArray} {w : World} (hr : RowS w A n c l) (hr' : RowS w A' n' c' l) (hl : l.length ≤ 1000000) :
    Calls Try.prog 16 #[.slice A n c, .slice A' n' c'] w fun e w' => e = .returned (.bool true) ∧ Below w.heap.size w w' := by
  obtain rfl := hr.len
  obtain rfl := hr'.len
  have H := Lib.hid hr
  have H' := Lib.hid hr'
  clear hr hr'
  go_enter Try.func16, Try.ntmps16
  go_wp2_with fail
  go_loopw [13] (fun i wr => ∃ k : Nat, k ≤ l.length ∧ i = .int .i64 k ∧ Below w.heap.size w wr) (fun i _ => l.length - (intOf i).toNat)
  case atStart => exact ⟨0, by omega, rfl, Below.refl _ _⟩
  case round =>
    obtain ⟨k, hk, rfl, hb⟩ := hrel
    by_cases hlk : k < l.length
    · obtain ⟨x, hx⟩ : ∃ x, l[k]? = some x := ⟨_, List.getElem?_eq_getElem hlk⟩
      obtain ⟨b, o, rfl, hbw, x0⟩ := SlS.at_ (H.out.below hb).sl hx
      obtain ⟨b', o', rfl, hbw', z0⟩ := SlS.at_ (H'.out.below hb).sl hx
      have hE := neqS x
      replace hb := Lib.hid hb
      clear hx
      go_wp2_with fail
      have K0 := cell_regrown x0
      have L0 := cell_regrown z0
      clear x0 z0 hbw hbw'
      refine wp_region_quiet_below (by kernel_rfl) (by kernel_rfl) ?_
      repeat (first | go_big_quiet_step (fail) | quiet_step (fail))
      refine wpQuiet_nil ?_
      intro _ hw'
      obtain ⟨⟨dq, osq⟩, hw''⟩ := hw'
      subst hw''
      have bq := below_regrown wr dq osq
      clear K0 L0
      generalize Go.Sort.grow (redrawn wr dq) osq = W1 at *
      have B1 := bt hb.out bq
      clear bq
      go_wp2_with fail
      go_roundw
      case rel => exact ⟨k + 1, by omega, by go_num, B1⟩
      case measure => simp [intOf]; omega
    · obtain rfl : k = l.length := by omega
      go_wp2_with fail
      go_ret
      exact ⟨rfl, hb⟩
/-- A queue's value. -/
abbrev qv (cap : Int) (items : Value) (lost : Int) : Value := .agg #[.int .i64 cap, items, .int .i64 lost]
set_option maxHeartbeats 8000000 in
theorem r_same {A A' : Option Addr} {n n' c c' : Nat} {l : List ByteArray} (cap lost : Int) {w : World} (ht : RowS w A n c l) (ht' : RowS w A' n' c' l) (hs : l.length ≤ 1000000) :
    Calls Try.prog 13 #[qv cap (.slice A n c) lost, qv cap (.slice A' n' c') lost] w fun e w' => e = .returned (.bool true) ∧ Below w.heap.size w w' := by
  obtain ⟨w0, hw0⟩ : ∃ w0, w0 = (w.alloc (.cells #[.int .i64 cap, .slice A n c, .int .i64 lost] 24)).alloc (.cells #[.int .i64 cap, .slice A' n' c', .int .i64 lost] 24) := ⟨_, rfl⟩
  have B0 := Lib.hid (show Below w.heap.size w w0 by rw [hw0]; exact ((Below.refl _ _).alloc (Nat.le_refl _) _).alloc (by simp) _)
  have hc := Lib.hid (r_rows (ht.below B0.out) (ht'.below B0.out) hs)
  have h1 : (cap == cap) = true := by simp
  have h2 : (lost == lost) = true := by simp
  clear ht ht' hs
  go_enter Try.func13, Try.ntmps13
  go_wp2_with fail
  rw [← hw0]
  clear hw0
  go_at_call 16
  (with_reducible refine hc.out.mono ?_)
  rintro e w1 ⟨rfl, hb⟩
  have B1 := Lib.hid (bt B0.out hb)
  clear hc hb B0
  go_wp2_with fail
  go_ret
  exact ⟨rfl, B1.out⟩
def rowB (l : List ByteArray) : Bool := l.all fun x => !decide (114 < (x.size : Int))
def rightQ (cap : Int) (l : List ByteArray) (lost : Int) : Bool := rowB l && (decide (1 ≤ cap) && (decide (cap ≤ 32) && (decide ((l.length : Int) ≤ cap) && (decide (0 ≤ lost) && decide (lost ≤ 1000000)))))
set_option maxHeartbeats 8000000 in
theorem r_right {A : Option Addr} {n c : Nat} {l : List ByteArray} (cap lost : Int) {w : World} (ht : RowS w A n c l) (hs : l.length ≤ 1000000) (hz : ∀ x ∈ l, x.size ≤ 1000000) :
    Calls Try.prog 11 #[qv cap (.slice A n c) lost] w fun e w' => e = .returned (.bool (rightQ cap l lost)) ∧ Below w.heap.size w w' := by
  obtain rfl := ht.len
  obtain ⟨w0, hw0⟩ : ∃ w0, w0 = w.alloc (.cells #[.int .i64 cap, .slice A l.length c, .int .i64 lost] 24) := ⟨_, rfl⟩
  have B0 := Lib.hid (show Below w.heap.size w w0 by rw [hw0]; exact (Below.refl _ _).alloc (Nat.le_refl _) _)
  have Y : w0.heap[w.heap.size]? = some (.cells #[.int .i64 cap, .slice A l.length c, .int .i64 lost] 24 (0, 0)) := by rw [hw0]; exact heap_alloc_new w _
  have hy0 : w.heap.size < w0.heap.size := (Array.getElem?_eq_some_iff.1 Y).1
  have y0 : w0.cell? ⟨w.heap.size, 0, none⟩ = some (.int .i64 cap) := by rw [cell_of_row w0 _ _ _ _ (0, 0) Y]; rfl
  have y1 : w0.cell? ⟨w.heap.size, 1, none⟩ = some (.slice A l.length c) := by rw [cell_of_row w0 _ _ _ _ (0, 0) Y]; rfl
  have y2 : w0.cell? ⟨w.heap.size, 2, none⟩ = some (.int .i64 lost) := by rw [cell_of_row w0 _ _ _ _ (0, 0) Y]; rfl
  have H := Lib.hid (ht.below B0.out)
  have hZ := Lib.hid hz
  have Yc := Lib.hid (fun W (hB : Below w0.heap.size w0 W) => (And.intro ((hB.cell (p := ⟨w.heap.size, 0, none⟩) hy0).trans y0) (And.intro ((hB.cell (p := ⟨w.heap.size, 1, none⟩) hy0).trans y1) ((hB.cell (p := ⟨w.heap.size, 2, none⟩) hy0).trans y2))))
  clear ht hz Y
  go_enter Try.func11, Try.ntmps11
  go_wp2_with fail
  rw [← hw0]
  clear hw0 y0 y1 y2
  go_loopw [8] (fun i wr => ∃ k : Nat, k ≤ l.length ∧ i = .int .i64 k ∧ Below w0.heap.size w0 wr ∧ rowB (l.take k) = true) (fun i _ => l.length - (intOf i).toNat)
  case atStart => exact ⟨0, by omega, rfl, Below.refl _ _, rfl⟩
  case round =>
    obtain ⟨k, hk, rfl, hb, hrow⟩ := hrel
    have hyr : w.heap.size < wr.heap.size := Nat.lt_of_lt_of_le hy0 hb.size
    by_cases hlk : k < l.length
    · obtain ⟨x, hx⟩ : ∃ x, l[k]? = some x := ⟨_, List.getElem?_eq_getElem hlk⟩
      obtain ⟨b, o, rfl, hbw, x0⟩ := SlS.at_ (H.out.below hb).sl hx
      have hxz := hZ.out x (List.mem_of_getElem? hx)
      have hsn : rowB (l.take (k + 1)) = (rowB (l.take k) && !decide (114 < (x.size : Int))) := by
        unfold rowB
        rw [List.take_add_one, hx]
        simp
      have hmem := List.mem_of_getElem? hx
      have hfull : decide (114 < (x.size : Int)) = true → rowB l = false := fun h => by
        unfold rowB
        rw [List.all_eq_false]
        exact ⟨x, hmem, by rw [h]; simp⟩
      replace hsn := Lib.hid hsn
      replace hfull := Lib.hid hfull
      replace hrow := Lib.hid hrow
      replace hb := Lib.hid hb
      clear hx hmem
      cases hd : decide (114 < (x.size : Int)) with
      | true =>
        have hf := Lib.hid (show rightQ cap l lost = false by unfold rightQ; rw [hfull.out hd]; rfl)
        have hd' : (114 : Int) < x.size := by simpa using hd
        clear hsn hfull hrow
        go_wp2_with fail
        go_ret
        exact ⟨by rw [hf.out]; rfl, bt B0.out hb.out⟩
      | false =>
        have hd' : ¬ (114 : Int) < x.size := by simpa using hd
        have hsn2 := Lib.hid (show rowB (l.take (k + 1)) = true by rw [hsn.out, hrow.out, hd]; rfl)
        clear hsn hfull hrow
        go_wp2_with fail
        go_roundw
        case rel => exact ⟨k + 1, by omega, by go_num, hb.out, hsn2.out⟩
        case measure => simp [intOf]; omega
    · obtain rfl : k = l.length := by omega
      rw [List.take_length] at hrow
      obtain ⟨y0, y1, y2⟩ := Yc.out wr hb
      have hq : rightQ cap l lost = (decide (1 ≤ cap) && (decide (cap ≤ 32) && (decide ((l.length : Int) ≤ cap) && (decide (0 ≤ lost) && decide (lost ≤ 1000000))))) := by unfold rightQ; rw [hrow]; rfl
      replace hq := Lib.hid hq
      replace hrow := Lib.hid hrow
      cases h1 : decide (1 ≤ cap) <;> cases h2 : decide (cap ≤ 32) <;> cases h3 : decide ((l.length : Int) ≤ cap) <;> cases h4 : decide (0 ≤ lost) <;> cases h5 : decide (lost ≤ 1000000)
      all_goals
        go_wp2_with fail
        go_ret
        exact ⟨by rw [hq.out, h1, h2, h3, h4, h5]; rfl, bt B0.out hb⟩
end Go.Proofs.Ytimpngmmmoaejaa.StrP
