/-
  Contracts of vec.firstApart and vec.compare.
-/
import Derived.Test.YtanceablbmgblaaVecB
namespace Go.Proofs.Ytanceablbmgblaa.VecP
open Go.RowKit Go.Sort
set_option linter.unusedVariables false
set_option maxRecDepth 100000

/-- The parts, by their places. -/
def partV : Nat → Value
  | 0 => .iface 61 (.agg #[])
  | 1 => .iface 62 (.agg #[])
  | 2 => .iface 63 (.agg #[])
  | _ => .iface 64 (.agg #[])
theorem three_below (w : World) (a b c : Obj) (wr w1 : World) (hb : Below (w.heap.size + 3) (((w.alloc a).alloc b).alloc c) wr) (hb1 : Below wr.heap.size wr w1) : Below w.heap.size w w1 :=
  ((((Below.refl _ _).alloc (Nat.le_refl _) _).alloc (by simp) _).alloc (by simp; omega) _).trans ((hb.trans (hb1.mono (by have := hb.size; simpa using this))).mono (by omega))
theorem three_grow (w : World) (a b c : Obj) (wr w1 : World) (hb : Below (w.heap.size + 3) (((w.alloc a).alloc b).alloc c) wr) (hb1 : Below wr.heap.size wr w1) : Below (w.heap.size + 3) (((w.alloc a).alloc b).alloc c) w1 :=
  hb.trans (hb1.mono (by have := hb.size; simpa using this))

set_option maxHeartbeats 2000000 in
theorem apart0 (r c b p r2 c2 b2 p2 : Int) (w : World) (h : (r == r2) = false) :
    Calls Try.prog 26 #[vv r c b p, vv r2 c2 b2 p2] w fun e w' => e = .returned (.iface 61 (.agg #[])) ∧ Below w.heap.size w w' := by
  have mof0 := meth_of0
  have H := Lib.hid h
  clear h
  go_enter Try.func26, Try.ntmps26
  go_wp2_with (go_at_call 25; refine (parts_any _).mono ?_; rintro e w' ⟨rfl, rfl⟩)
  go_loopw [6] (fun i wr => ∃ k : Nat, k ≤ 0 ∧ i = .int .i64 k ∧ Below (w.heap.size + 3) (((w.alloc (.cells #[.int .i64 r, .int .i64 c, .int .i64 b, .int .i64 p] 23)).alloc (.cells #[.int .i64 r2, .int .i64 c2, .int .i64 b2, .int .i64 p2] 23)).alloc partsObj) wr) (fun i _ => 0 - (intOf i).toNat)
  case atStart => exact ⟨0, by omega, rfl, Below.refl _ _⟩
  case round =>
    obtain ⟨k, hk, rfl, hb⟩ := hrel
    obtain ⟨hc, hf⟩ := bcell hb
    have a0 : wr.cell? ⟨w.heap.size, 0, none⟩ = some (.int .i64 r) := by rw [hc _ _ (by omega)]; go_simp
    have a1 : wr.cell? ⟨w.heap.size, 1, none⟩ = some (.int .i64 c) := by rw [hc _ _ (by omega)]; go_simp
    have a2 : wr.cell? ⟨w.heap.size, 2, none⟩ = some (.int .i64 b) := by rw [hc _ _ (by omega)]; go_simp
    have a3 : wr.cell? ⟨w.heap.size, 3, none⟩ = some (.int .i64 p) := by rw [hc _ _ (by omega)]; go_simp
    have b0 : wr.cell? ⟨w.heap.size + 1, 0, none⟩ = some (.int .i64 r2) := by rw [hc _ _ (by omega)]; go_simp
    have b1 : wr.cell? ⟨w.heap.size + 1, 1, none⟩ = some (.int .i64 c2) := by rw [hc _ _ (by omega)]; go_simp
    have b2 : wr.cell? ⟨w.heap.size + 1, 2, none⟩ = some (.int .i64 b2) := by rw [hc _ _ (by omega)]; go_simp
    have b3 : wr.cell? ⟨w.heap.size + 1, 3, none⟩ = some (.int .i64 p2) := by rw [hc _ _ (by omega)]; go_simp
    have q0 : wr.cell? ⟨w.heap.size + 2, 0, none⟩ = some (.iface 61 (.agg #[])) := by rw [hc _ _ (by omega)]; go_simp
    clear hc hf
    have Ka0 := cell_regrown a0
    have Ka1 := cell_regrown a1
    have Ka2 := cell_regrown a2
    have Ka3 := cell_regrown a3
    have Kb0 := cell_regrown b0
    have Kb1 := cell_regrown b1
    have Kb2 := cell_regrown b2
    have Kb3 := cell_regrown b3
    have Kq0 := cell_regrown q0
    clear a0 a1 a2 a3 b0 b1 b2 b3
    match k, hk with
    | 0, _ =>
      have H1 := Lib.hid H.out
      go_wp2_with fail
      refine wp_region_quiet_below (by kernel_rfl) (by kernel_rfl) ?_
      have cO := fun (x0 x1 x2 x3 : Int) (d : Nat) (os : Array Obj) => Calls.regrown_of (of0 x0 x1 x2 x3 (grow (redrawn wr d) os))
      repeat (first | go_big_quiet_step (exact cO _ _ _ _ _ _) | quiet_step (exact cO _ _ _ _ _ _))
      refine wpQuiet_nil ?_
      intro _ hw'
      obtain ⟨⟨dq, osq⟩, hw''⟩ := hw'
      subst hw''
      have Q0 := Kq0 dq osq
      have hb1 := below_regrown wr dq osq
      clear Ka0 Ka1 Ka2 Ka3 Kb0 Kb1 Kb2 Kb3 Kq0 cO
      generalize grow (redrawn wr dq) osq = w1 at *
      have H2 := H.out
      go_wp2_with fail
      go_ret
      exact ⟨rfl, three_below w _ _ _ wr w1 hb hb1⟩

set_option maxHeartbeats 2000000 in
theorem apart1 (r c b p c2 b2 p2 : Int) (w : World) (h : (c == c2) = false) :
    Calls Try.prog 26 #[vv r c b p, vv r c2 b2 p2] w fun e w' => e = .returned (.iface 62 (.agg #[])) ∧ Below w.heap.size w w' := by
  have mof0 := meth_of0
  have mof1 := meth_of1
  have H := Lib.hid h
  clear h
  go_enter Try.func26, Try.ntmps26
  go_wp2_with (go_at_call 25; refine (parts_any _).mono ?_; rintro e w' ⟨rfl, rfl⟩)
  go_loopw [6] (fun i wr => ∃ k : Nat, k ≤ 1 ∧ i = .int .i64 k ∧ Below (w.heap.size + 3) (((w.alloc (.cells #[.int .i64 r, .int .i64 c, .int .i64 b, .int .i64 p] 23)).alloc (.cells #[.int .i64 r, .int .i64 c2, .int .i64 b2, .int .i64 p2] 23)).alloc partsObj) wr) (fun i _ => 1 - (intOf i).toNat)
  case atStart => exact ⟨0, by omega, rfl, Below.refl _ _⟩
  case round =>
    obtain ⟨k, hk, rfl, hb⟩ := hrel
    obtain ⟨hc, hf⟩ := bcell hb
    have a0 : wr.cell? ⟨w.heap.size, 0, none⟩ = some (.int .i64 r) := by rw [hc _ _ (by omega)]; go_simp
    have a1 : wr.cell? ⟨w.heap.size, 1, none⟩ = some (.int .i64 c) := by rw [hc _ _ (by omega)]; go_simp
    have a2 : wr.cell? ⟨w.heap.size, 2, none⟩ = some (.int .i64 b) := by rw [hc _ _ (by omega)]; go_simp
    have a3 : wr.cell? ⟨w.heap.size, 3, none⟩ = some (.int .i64 p) := by rw [hc _ _ (by omega)]; go_simp
    have b0 : wr.cell? ⟨w.heap.size + 1, 0, none⟩ = some (.int .i64 r) := by rw [hc _ _ (by omega)]; go_simp
    have b1 : wr.cell? ⟨w.heap.size + 1, 1, none⟩ = some (.int .i64 c2) := by rw [hc _ _ (by omega)]; go_simp
    have b2 : wr.cell? ⟨w.heap.size + 1, 2, none⟩ = some (.int .i64 b2) := by rw [hc _ _ (by omega)]; go_simp
    have b3 : wr.cell? ⟨w.heap.size + 1, 3, none⟩ = some (.int .i64 p2) := by rw [hc _ _ (by omega)]; go_simp
    have q0 : wr.cell? ⟨w.heap.size + 2, 0, none⟩ = some (.iface 61 (.agg #[])) := by rw [hc _ _ (by omega)]; go_simp
    have q1 : wr.cell? ⟨w.heap.size + 2, 1, none⟩ = some (.iface 62 (.agg #[])) := by rw [hc _ _ (by omega)]; go_simp
    clear hc hf
    have Ka0 := cell_regrown a0
    have Ka1 := cell_regrown a1
    have Ka2 := cell_regrown a2
    have Ka3 := cell_regrown a3
    have Kb0 := cell_regrown b0
    have Kb1 := cell_regrown b1
    have Kb2 := cell_regrown b2
    have Kb3 := cell_regrown b3
    have Kq0 := cell_regrown q0
    have Kq1 := cell_regrown q1
    clear a0 a1 a2 a3 b0 b1 b2 b3
    match k, hk with
    | 0, _ =>
      have H1 := Lib.hid H.out
      go_wp2_with fail
      refine wp_region_quiet_below (by kernel_rfl) (by kernel_rfl) ?_
      have cO := fun (x0 x1 x2 x3 : Int) (d : Nat) (os : Array Obj) => Calls.regrown_of (of0 x0 x1 x2 x3 (grow (redrawn wr d) os))
      repeat (first | go_big_quiet_step (exact cO _ _ _ _ _ _) | quiet_step (exact cO _ _ _ _ _ _))
      refine wpQuiet_nil ?_
      intro _ hw'
      obtain ⟨⟨dq, osq⟩, hw''⟩ := hw'
      subst hw''
      have Q0 := Kq0 dq osq
      have hb1 := below_regrown wr dq osq
      clear Ka0 Ka1 Ka2 Ka3 Kb0 Kb1 Kb2 Kb3 Kq0 Kq1 cO
      generalize grow (redrawn wr dq) osq = w1 at *
      go_wp2_with fail
      go_roundw
      case rel => exact ⟨0+1, by omega, rfl, three_grow w _ _ _ wr w1 hb hb1⟩
      case measure => simp [intOf]
    | 1, _ =>
      have H1 := Lib.hid H.out
      go_wp2_with fail
      refine wp_region_quiet_below (by kernel_rfl) (by kernel_rfl) ?_
      have cO := fun (x0 x1 x2 x3 : Int) (d : Nat) (os : Array Obj) => Calls.regrown_of (of1 x0 x1 x2 x3 (grow (redrawn wr d) os))
      repeat (first | go_big_quiet_step (exact cO _ _ _ _ _ _) | quiet_step (exact cO _ _ _ _ _ _))
      refine wpQuiet_nil ?_
      intro _ hw'
      obtain ⟨⟨dq, osq⟩, hw''⟩ := hw'
      subst hw''
      have Q0 := Kq1 dq osq
      have hb1 := below_regrown wr dq osq
      clear Ka0 Ka1 Ka2 Ka3 Kb0 Kb1 Kb2 Kb3 Kq0 Kq1 cO
      generalize grow (redrawn wr dq) osq = w1 at *
      have H2 := H.out
      go_wp2_with fail
      go_ret
      exact ⟨rfl, three_below w _ _ _ wr w1 hb hb1⟩

set_option maxHeartbeats 2000000 in
theorem apart2 (r c b p b2 p2 : Int) (w : World) (h : (b == b2) = false) :
    Calls Try.prog 26 #[vv r c b p, vv r c b2 p2] w fun e w' => e = .returned (.iface 63 (.agg #[])) ∧ Below w.heap.size w w' := by
  have mof0 := meth_of0
  have mof1 := meth_of1
  have mof2 := meth_of2
  have H := Lib.hid h
  clear h
  go_enter Try.func26, Try.ntmps26
  go_wp2_with (go_at_call 25; refine (parts_any _).mono ?_; rintro e w' ⟨rfl, rfl⟩)
  go_loopw [6] (fun i wr => ∃ k : Nat, k ≤ 2 ∧ i = .int .i64 k ∧ Below (w.heap.size + 3) (((w.alloc (.cells #[.int .i64 r, .int .i64 c, .int .i64 b, .int .i64 p] 23)).alloc (.cells #[.int .i64 r, .int .i64 c, .int .i64 b2, .int .i64 p2] 23)).alloc partsObj) wr) (fun i _ => 2 - (intOf i).toNat)
  case atStart => exact ⟨0, by omega, rfl, Below.refl _ _⟩
  case round =>
    obtain ⟨k, hk, rfl, hb⟩ := hrel
    obtain ⟨hc, hf⟩ := bcell hb
    have a0 : wr.cell? ⟨w.heap.size, 0, none⟩ = some (.int .i64 r) := by rw [hc _ _ (by omega)]; go_simp
    have a1 : wr.cell? ⟨w.heap.size, 1, none⟩ = some (.int .i64 c) := by rw [hc _ _ (by omega)]; go_simp
    have a2 : wr.cell? ⟨w.heap.size, 2, none⟩ = some (.int .i64 b) := by rw [hc _ _ (by omega)]; go_simp
    have a3 : wr.cell? ⟨w.heap.size, 3, none⟩ = some (.int .i64 p) := by rw [hc _ _ (by omega)]; go_simp
    have b0 : wr.cell? ⟨w.heap.size + 1, 0, none⟩ = some (.int .i64 r) := by rw [hc _ _ (by omega)]; go_simp
    have b1 : wr.cell? ⟨w.heap.size + 1, 1, none⟩ = some (.int .i64 c) := by rw [hc _ _ (by omega)]; go_simp
    have b2 : wr.cell? ⟨w.heap.size + 1, 2, none⟩ = some (.int .i64 b2) := by rw [hc _ _ (by omega)]; go_simp
    have b3 : wr.cell? ⟨w.heap.size + 1, 3, none⟩ = some (.int .i64 p2) := by rw [hc _ _ (by omega)]; go_simp
    have q0 : wr.cell? ⟨w.heap.size + 2, 0, none⟩ = some (.iface 61 (.agg #[])) := by rw [hc _ _ (by omega)]; go_simp
    have q1 : wr.cell? ⟨w.heap.size + 2, 1, none⟩ = some (.iface 62 (.agg #[])) := by rw [hc _ _ (by omega)]; go_simp
    have q2 : wr.cell? ⟨w.heap.size + 2, 2, none⟩ = some (.iface 63 (.agg #[])) := by rw [hc _ _ (by omega)]; go_simp
    clear hc hf
    have Ka0 := cell_regrown a0
    have Ka1 := cell_regrown a1
    have Ka2 := cell_regrown a2
    have Ka3 := cell_regrown a3
    have Kb0 := cell_regrown b0
    have Kb1 := cell_regrown b1
    have Kb2 := cell_regrown b2
    have Kb3 := cell_regrown b3
    have Kq0 := cell_regrown q0
    have Kq1 := cell_regrown q1
    have Kq2 := cell_regrown q2
    clear a0 a1 a2 a3 b0 b1 b2 b3
    match k, hk with
    | 0, _ =>
      have H1 := Lib.hid H.out
      go_wp2_with fail
      refine wp_region_quiet_below (by kernel_rfl) (by kernel_rfl) ?_
      have cO := fun (x0 x1 x2 x3 : Int) (d : Nat) (os : Array Obj) => Calls.regrown_of (of0 x0 x1 x2 x3 (grow (redrawn wr d) os))
      repeat (first | go_big_quiet_step (exact cO _ _ _ _ _ _) | quiet_step (exact cO _ _ _ _ _ _))
      refine wpQuiet_nil ?_
      intro _ hw'
      obtain ⟨⟨dq, osq⟩, hw''⟩ := hw'
      subst hw''
      have Q0 := Kq0 dq osq
      have hb1 := below_regrown wr dq osq
      clear Ka0 Ka1 Ka2 Ka3 Kb0 Kb1 Kb2 Kb3 Kq0 Kq1 Kq2 cO
      generalize grow (redrawn wr dq) osq = w1 at *
      go_wp2_with fail
      go_roundw
      case rel => exact ⟨0+1, by omega, rfl, three_grow w _ _ _ wr w1 hb hb1⟩
      case measure => simp [intOf]
    | 1, _ =>
      have H1 := Lib.hid H.out
      go_wp2_with fail
      refine wp_region_quiet_below (by kernel_rfl) (by kernel_rfl) ?_
      have cO := fun (x0 x1 x2 x3 : Int) (d : Nat) (os : Array Obj) => Calls.regrown_of (of1 x0 x1 x2 x3 (grow (redrawn wr d) os))
      repeat (first | go_big_quiet_step (exact cO _ _ _ _ _ _) | quiet_step (exact cO _ _ _ _ _ _))
      refine wpQuiet_nil ?_
      intro _ hw'
      obtain ⟨⟨dq, osq⟩, hw''⟩ := hw'
      subst hw''
      have Q0 := Kq1 dq osq
      have hb1 := below_regrown wr dq osq
      clear Ka0 Ka1 Ka2 Ka3 Kb0 Kb1 Kb2 Kb3 Kq0 Kq1 Kq2 cO
      generalize grow (redrawn wr dq) osq = w1 at *
      go_wp2_with fail
      go_roundw
      case rel => exact ⟨1+1, by omega, rfl, three_grow w _ _ _ wr w1 hb hb1⟩
      case measure => simp [intOf]
    | 2, _ =>
      have H1 := Lib.hid H.out
      go_wp2_with fail
      refine wp_region_quiet_below (by kernel_rfl) (by kernel_rfl) ?_
      have cO := fun (x0 x1 x2 x3 : Int) (d : Nat) (os : Array Obj) => Calls.regrown_of (of2 x0 x1 x2 x3 (grow (redrawn wr d) os))
      repeat (first | go_big_quiet_step (exact cO _ _ _ _ _ _) | quiet_step (exact cO _ _ _ _ _ _))
      refine wpQuiet_nil ?_
      intro _ hw'
      obtain ⟨⟨dq, osq⟩, hw''⟩ := hw'
      subst hw''
      have Q0 := Kq2 dq osq
      have hb1 := below_regrown wr dq osq
      clear Ka0 Ka1 Ka2 Ka3 Kb0 Kb1 Kb2 Kb3 Kq0 Kq1 Kq2 cO
      generalize grow (redrawn wr dq) osq = w1 at *
      have H2 := H.out
      go_wp2_with fail
      go_ret
      exact ⟨rfl, three_below w _ _ _ wr w1 hb hb1⟩

set_option maxHeartbeats 2000000 in
theorem apart3 (r c b p p2 : Int) (w : World) (h : (p == p2) = false) :
    Calls Try.prog 26 #[vv r c b p, vv r c b p2] w fun e w' => e = .returned (.iface 64 (.agg #[])) ∧ Below w.heap.size w w' := by
  have mof0 := meth_of0
  have mof1 := meth_of1
  have mof2 := meth_of2
  have mof3 := meth_of3
  have H := Lib.hid h
  clear h
  go_enter Try.func26, Try.ntmps26
  go_wp2_with (go_at_call 25; refine (parts_any _).mono ?_; rintro e w' ⟨rfl, rfl⟩)
  go_loopw [6] (fun i wr => ∃ k : Nat, k ≤ 3 ∧ i = .int .i64 k ∧ Below (w.heap.size + 3) (((w.alloc (.cells #[.int .i64 r, .int .i64 c, .int .i64 b, .int .i64 p] 23)).alloc (.cells #[.int .i64 r, .int .i64 c, .int .i64 b, .int .i64 p2] 23)).alloc partsObj) wr) (fun i _ => 3 - (intOf i).toNat)
  case atStart => exact ⟨0, by omega, rfl, Below.refl _ _⟩
  case round =>
    obtain ⟨k, hk, rfl, hb⟩ := hrel
    obtain ⟨hc, hf⟩ := bcell hb
    have a0 : wr.cell? ⟨w.heap.size, 0, none⟩ = some (.int .i64 r) := by rw [hc _ _ (by omega)]; go_simp
    have a1 : wr.cell? ⟨w.heap.size, 1, none⟩ = some (.int .i64 c) := by rw [hc _ _ (by omega)]; go_simp
    have a2 : wr.cell? ⟨w.heap.size, 2, none⟩ = some (.int .i64 b) := by rw [hc _ _ (by omega)]; go_simp
    have a3 : wr.cell? ⟨w.heap.size, 3, none⟩ = some (.int .i64 p) := by rw [hc _ _ (by omega)]; go_simp
    have b0 : wr.cell? ⟨w.heap.size + 1, 0, none⟩ = some (.int .i64 r) := by rw [hc _ _ (by omega)]; go_simp
    have b1 : wr.cell? ⟨w.heap.size + 1, 1, none⟩ = some (.int .i64 c) := by rw [hc _ _ (by omega)]; go_simp
    have b2 : wr.cell? ⟨w.heap.size + 1, 2, none⟩ = some (.int .i64 b) := by rw [hc _ _ (by omega)]; go_simp
    have b3 : wr.cell? ⟨w.heap.size + 1, 3, none⟩ = some (.int .i64 p2) := by rw [hc _ _ (by omega)]; go_simp
    have q0 : wr.cell? ⟨w.heap.size + 2, 0, none⟩ = some (.iface 61 (.agg #[])) := by rw [hc _ _ (by omega)]; go_simp
    have q1 : wr.cell? ⟨w.heap.size + 2, 1, none⟩ = some (.iface 62 (.agg #[])) := by rw [hc _ _ (by omega)]; go_simp
    have q2 : wr.cell? ⟨w.heap.size + 2, 2, none⟩ = some (.iface 63 (.agg #[])) := by rw [hc _ _ (by omega)]; go_simp
    have q3 : wr.cell? ⟨w.heap.size + 2, 3, none⟩ = some (.iface 64 (.agg #[])) := by rw [hc _ _ (by omega)]; go_simp
    clear hc hf
    have Ka0 := cell_regrown a0
    have Ka1 := cell_regrown a1
    have Ka2 := cell_regrown a2
    have Ka3 := cell_regrown a3
    have Kb0 := cell_regrown b0
    have Kb1 := cell_regrown b1
    have Kb2 := cell_regrown b2
    have Kb3 := cell_regrown b3
    have Kq0 := cell_regrown q0
    have Kq1 := cell_regrown q1
    have Kq2 := cell_regrown q2
    have Kq3 := cell_regrown q3
    clear a0 a1 a2 a3 b0 b1 b2 b3
    match k, hk with
    | 0, _ =>
      have H1 := Lib.hid H.out
      go_wp2_with fail
      refine wp_region_quiet_below (by kernel_rfl) (by kernel_rfl) ?_
      have cO := fun (x0 x1 x2 x3 : Int) (d : Nat) (os : Array Obj) => Calls.regrown_of (of0 x0 x1 x2 x3 (grow (redrawn wr d) os))
      repeat (first | go_big_quiet_step (exact cO _ _ _ _ _ _) | quiet_step (exact cO _ _ _ _ _ _))
      refine wpQuiet_nil ?_
      intro _ hw'
      obtain ⟨⟨dq, osq⟩, hw''⟩ := hw'
      subst hw''
      have Q0 := Kq0 dq osq
      have hb1 := below_regrown wr dq osq
      clear Ka0 Ka1 Ka2 Ka3 Kb0 Kb1 Kb2 Kb3 Kq0 Kq1 Kq2 Kq3 cO
      generalize grow (redrawn wr dq) osq = w1 at *
      go_wp2_with fail
      go_roundw
      case rel => exact ⟨0+1, by omega, rfl, three_grow w _ _ _ wr w1 hb hb1⟩
      case measure => simp [intOf]
    | 1, _ =>
      have H1 := Lib.hid H.out
      go_wp2_with fail
      refine wp_region_quiet_below (by kernel_rfl) (by kernel_rfl) ?_
      have cO := fun (x0 x1 x2 x3 : Int) (d : Nat) (os : Array Obj) => Calls.regrown_of (of1 x0 x1 x2 x3 (grow (redrawn wr d) os))
      repeat (first | go_big_quiet_step (exact cO _ _ _ _ _ _) | quiet_step (exact cO _ _ _ _ _ _))
      refine wpQuiet_nil ?_
      intro _ hw'
      obtain ⟨⟨dq, osq⟩, hw''⟩ := hw'
      subst hw''
      have Q0 := Kq1 dq osq
      have hb1 := below_regrown wr dq osq
      clear Ka0 Ka1 Ka2 Ka3 Kb0 Kb1 Kb2 Kb3 Kq0 Kq1 Kq2 Kq3 cO
      generalize grow (redrawn wr dq) osq = w1 at *
      go_wp2_with fail
      go_roundw
      case rel => exact ⟨1+1, by omega, rfl, three_grow w _ _ _ wr w1 hb hb1⟩
      case measure => simp [intOf]
    | 2, _ =>
      have H1 := Lib.hid H.out
      go_wp2_with fail
      refine wp_region_quiet_below (by kernel_rfl) (by kernel_rfl) ?_
      have cO := fun (x0 x1 x2 x3 : Int) (d : Nat) (os : Array Obj) => Calls.regrown_of (of2 x0 x1 x2 x3 (grow (redrawn wr d) os))
      repeat (first | go_big_quiet_step (exact cO _ _ _ _ _ _) | quiet_step (exact cO _ _ _ _ _ _))
      refine wpQuiet_nil ?_
      intro _ hw'
      obtain ⟨⟨dq, osq⟩, hw''⟩ := hw'
      subst hw''
      have Q0 := Kq2 dq osq
      have hb1 := below_regrown wr dq osq
      clear Ka0 Ka1 Ka2 Ka3 Kb0 Kb1 Kb2 Kb3 Kq0 Kq1 Kq2 Kq3 cO
      generalize grow (redrawn wr dq) osq = w1 at *
      go_wp2_with fail
      go_roundw
      case rel => exact ⟨2+1, by omega, rfl, three_grow w _ _ _ wr w1 hb hb1⟩
      case measure => simp [intOf]
    | 3, _ =>
      have H1 := Lib.hid H.out
      go_wp2_with fail
      refine wp_region_quiet_below (by kernel_rfl) (by kernel_rfl) ?_
      have cO := fun (x0 x1 x2 x3 : Int) (d : Nat) (os : Array Obj) => Calls.regrown_of (of3 x0 x1 x2 x3 (grow (redrawn wr d) os))
      repeat (first | go_big_quiet_step (exact cO _ _ _ _ _ _) | quiet_step (exact cO _ _ _ _ _ _))
      refine wpQuiet_nil ?_
      intro _ hw'
      obtain ⟨⟨dq, osq⟩, hw''⟩ := hw'
      subst hw''
      have Q0 := Kq3 dq osq
      have hb1 := below_regrown wr dq osq
      clear Ka0 Ka1 Ka2 Ka3 Kb0 Kb1 Kb2 Kb3 Kq0 Kq1 Kq2 Kq3 cO
      generalize grow (redrawn wr dq) osq = w1 at *
      have H2 := H.out
      go_wp2_with fail
      go_ret
      exact ⟨rfl, three_below w _ _ _ wr w1 hb hb1⟩

end Go.Proofs.Ytanceablbmgblaa.VecP
