/-
  Contracts of vec.firstApart and vec.compare.
-/
import Derived.Test.YtplgaenfcaphnaaVecB
namespace Go.Proofs.Ytplgaenfcaphnaa.VecP
open Go.RowKit Go.Sort
set_option linter.unusedVariables false
set_option maxRecDepth 100000

/-- The parts, by their places. -/
def partV : Nat → Value
  | 0 => .iface 147 (.agg #[])
  | 1 => .iface 148 (.agg #[])
  | 2 => .iface 149 (.agg #[])
  | _ => .iface 150 (.agg #[])

set_option maxHeartbeats 2000000 in
theorem apart0 (r c b p r2 c2 b2 p2 : Int) (w : World) (h : (r == r2) = false) :
    Calls Try.prog 80 #[vv r c b p, vv r2 c2 b2 p2] w fun e w' => e = .returned (.iface 147 (.agg #[])) ∧ Grew w w' := by
  have mof0 := meth_of0
  have H := Lib.hid h
  clear h
  go_enter Try.func80, Try.ntmps80
  go_wp2_with (go_at_call 85; refine (parts_any _).mono ?_; rintro e w' ⟨rfl, rfl⟩)
  go_loopw [6] (fun i wr => ∃ k : Nat, k ≤ 0 ∧ i = .int .i64 k ∧ Grew (((w.alloc (.cells #[.int .i64 r, .int .i64 c, .int .i64 b, .int .i64 p] 103)).alloc (.cells #[.int .i64 r2, .int .i64 c2, .int .i64 b2, .int .i64 p2] 103)).alloc partsObj) wr) (fun i _ => 0 - (intOf i).toNat)
  case atStart => exact ⟨0, by omega, rfl, Grew.refl _⟩
  case round =>
    obtain ⟨k, hk, rfl, hb⟩ := hrel
    have hbb := hb.below
    have hbs := hbb.size
    simp at hbs
    obtain ⟨hc, hf⟩ := bcell hbb
    have a0 : wr.cell? ⟨w.heap.size, 0, none⟩ = some (.int .i64 r) := by rw [hc _ _ (by simp; try omega)]; go_simp
    have a1 : wr.cell? ⟨w.heap.size, 1, none⟩ = some (.int .i64 c) := by rw [hc _ _ (by simp; try omega)]; go_simp
    have a2 : wr.cell? ⟨w.heap.size, 2, none⟩ = some (.int .i64 b) := by rw [hc _ _ (by simp; try omega)]; go_simp
    have a3 : wr.cell? ⟨w.heap.size, 3, none⟩ = some (.int .i64 p) := by rw [hc _ _ (by simp; try omega)]; go_simp
    have b0 : wr.cell? ⟨w.heap.size + 1, 0, none⟩ = some (.int .i64 r2) := by rw [hc _ _ (by simp; try omega)]; go_simp
    have b1 : wr.cell? ⟨w.heap.size + 1, 1, none⟩ = some (.int .i64 c2) := by rw [hc _ _ (by simp; try omega)]; go_simp
    have b2 : wr.cell? ⟨w.heap.size + 1, 2, none⟩ = some (.int .i64 b2) := by rw [hc _ _ (by simp; try omega)]; go_simp
    have b3 : wr.cell? ⟨w.heap.size + 1, 3, none⟩ = some (.int .i64 p2) := by rw [hc _ _ (by simp; try omega)]; go_simp
    have q0 : wr.cell? ⟨w.heap.size + 2, 0, none⟩ = some (.iface 147 (.agg #[])) := by rw [hc _ _ (by simp; try omega)]; go_simp
    clear hc hf hbb
    have Ka0 := cell_grown (a := ⟨w.heap.size, 0, none⟩) (show w.heap.size < wr.heap.size by omega) a0
    have Ka1 := cell_grown (a := ⟨w.heap.size, 1, none⟩) (show w.heap.size < wr.heap.size by omega) a1
    have Ka2 := cell_grown (a := ⟨w.heap.size, 2, none⟩) (show w.heap.size < wr.heap.size by omega) a2
    have Ka3 := cell_grown (a := ⟨w.heap.size, 3, none⟩) (show w.heap.size < wr.heap.size by omega) a3
    have Kb0 := cell_grown (a := ⟨w.heap.size + 1, 0, none⟩) (show w.heap.size + 1 < wr.heap.size by omega) b0
    have Kb1 := cell_grown (a := ⟨w.heap.size + 1, 1, none⟩) (show w.heap.size + 1 < wr.heap.size by omega) b1
    have Kb2 := cell_grown (a := ⟨w.heap.size + 1, 2, none⟩) (show w.heap.size + 1 < wr.heap.size by omega) b2
    have Kb3 := cell_grown (a := ⟨w.heap.size + 1, 3, none⟩) (show w.heap.size + 1 < wr.heap.size by omega) b3
    have Kq0 := cell_grown (a := ⟨w.heap.size + 2, 0, none⟩) (show w.heap.size + 2 < wr.heap.size by omega) q0
    clear a0 a1 a2 a3 b0 b1 b2 b3
    match k, hk with
    | 0, _ =>
      have H1 := Lib.hid H.out
      go_wp2_with fail
      refine wp_region_quiet_grown (by kernel_rfl) (by kernel_rfl) ?_
      have cO := fun (x0 x1 x2 x3 : Int) (d : Nat) (os : Array Obj) => Calls.grown_of ((of0_g x0 x1 x2 x3 (Go.Sort.grow (wr.drewN d) os)).mono fun _ _ ⟨h1, p, h2⟩ => ⟨h1, p.n, p.os, h2⟩)
      repeat (first | go_big_quiet_step (exact cO _ _ _ _ _ _) | quiet_step (exact cO _ _ _ _ _ _))
      refine wpQuiet_nil ?_
      intro _ hw'
      obtain ⟨⟨dq, osq⟩, hw''⟩ := hw'
      subst hw''
      have Q0 := Kq0 dq osq
      have hb1 : Grew wr (Go.Sort.grow (wr.drewN dq) osq) := ⟨⟨dq, osq⟩, rfl⟩
      clear Ka0 Ka1 Ka2 Ka3 Kb0 Kb1 Kb2 Kb3 Kq0 cO
      clear hbs
      generalize Go.Sort.grow (wr.drewN dq) osq = w1 at *
      have H2 := H.out
      go_wp2_with fail
      go_ret
      exact ⟨rfl, (((((Grew.refl w).alloc _).alloc _).alloc _).trans hb).trans hb1⟩

set_option maxHeartbeats 2000000 in
theorem apart1 (r c b p c2 b2 p2 : Int) (w : World) (h : (c == c2) = false) :
    Calls Try.prog 80 #[vv r c b p, vv r c2 b2 p2] w fun e w' => e = .returned (.iface 148 (.agg #[])) ∧ Grew w w' := by
  have mof0 := meth_of0
  have mof1 := meth_of1
  have H := Lib.hid h
  clear h
  go_enter Try.func80, Try.ntmps80
  go_wp2_with (go_at_call 85; refine (parts_any _).mono ?_; rintro e w' ⟨rfl, rfl⟩)
  go_loopw [6] (fun i wr => ∃ k : Nat, k ≤ 1 ∧ i = .int .i64 k ∧ Grew (((w.alloc (.cells #[.int .i64 r, .int .i64 c, .int .i64 b, .int .i64 p] 103)).alloc (.cells #[.int .i64 r, .int .i64 c2, .int .i64 b2, .int .i64 p2] 103)).alloc partsObj) wr) (fun i _ => 1 - (intOf i).toNat)
  case atStart => exact ⟨0, by omega, rfl, Grew.refl _⟩
  case round =>
    obtain ⟨k, hk, rfl, hb⟩ := hrel
    have hbb := hb.below
    have hbs := hbb.size
    simp at hbs
    obtain ⟨hc, hf⟩ := bcell hbb
    have a0 : wr.cell? ⟨w.heap.size, 0, none⟩ = some (.int .i64 r) := by rw [hc _ _ (by simp; try omega)]; go_simp
    have a1 : wr.cell? ⟨w.heap.size, 1, none⟩ = some (.int .i64 c) := by rw [hc _ _ (by simp; try omega)]; go_simp
    have a2 : wr.cell? ⟨w.heap.size, 2, none⟩ = some (.int .i64 b) := by rw [hc _ _ (by simp; try omega)]; go_simp
    have a3 : wr.cell? ⟨w.heap.size, 3, none⟩ = some (.int .i64 p) := by rw [hc _ _ (by simp; try omega)]; go_simp
    have b0 : wr.cell? ⟨w.heap.size + 1, 0, none⟩ = some (.int .i64 r) := by rw [hc _ _ (by simp; try omega)]; go_simp
    have b1 : wr.cell? ⟨w.heap.size + 1, 1, none⟩ = some (.int .i64 c2) := by rw [hc _ _ (by simp; try omega)]; go_simp
    have b2 : wr.cell? ⟨w.heap.size + 1, 2, none⟩ = some (.int .i64 b2) := by rw [hc _ _ (by simp; try omega)]; go_simp
    have b3 : wr.cell? ⟨w.heap.size + 1, 3, none⟩ = some (.int .i64 p2) := by rw [hc _ _ (by simp; try omega)]; go_simp
    have q0 : wr.cell? ⟨w.heap.size + 2, 0, none⟩ = some (.iface 147 (.agg #[])) := by rw [hc _ _ (by simp; try omega)]; go_simp
    have q1 : wr.cell? ⟨w.heap.size + 2, 1, none⟩ = some (.iface 148 (.agg #[])) := by rw [hc _ _ (by simp; try omega)]; go_simp
    clear hc hf hbb
    have Ka0 := cell_grown (a := ⟨w.heap.size, 0, none⟩) (show w.heap.size < wr.heap.size by omega) a0
    have Ka1 := cell_grown (a := ⟨w.heap.size, 1, none⟩) (show w.heap.size < wr.heap.size by omega) a1
    have Ka2 := cell_grown (a := ⟨w.heap.size, 2, none⟩) (show w.heap.size < wr.heap.size by omega) a2
    have Ka3 := cell_grown (a := ⟨w.heap.size, 3, none⟩) (show w.heap.size < wr.heap.size by omega) a3
    have Kb0 := cell_grown (a := ⟨w.heap.size + 1, 0, none⟩) (show w.heap.size + 1 < wr.heap.size by omega) b0
    have Kb1 := cell_grown (a := ⟨w.heap.size + 1, 1, none⟩) (show w.heap.size + 1 < wr.heap.size by omega) b1
    have Kb2 := cell_grown (a := ⟨w.heap.size + 1, 2, none⟩) (show w.heap.size + 1 < wr.heap.size by omega) b2
    have Kb3 := cell_grown (a := ⟨w.heap.size + 1, 3, none⟩) (show w.heap.size + 1 < wr.heap.size by omega) b3
    have Kq0 := cell_grown (a := ⟨w.heap.size + 2, 0, none⟩) (show w.heap.size + 2 < wr.heap.size by omega) q0
    have Kq1 := cell_grown (a := ⟨w.heap.size + 2, 1, none⟩) (show w.heap.size + 2 < wr.heap.size by omega) q1
    clear a0 a1 a2 a3 b0 b1 b2 b3
    match k, hk with
    | 0, _ =>
      have H1 := Lib.hid H.out
      go_wp2_with fail
      refine wp_region_quiet_grown (by kernel_rfl) (by kernel_rfl) ?_
      have cO := fun (x0 x1 x2 x3 : Int) (d : Nat) (os : Array Obj) => Calls.grown_of ((of0_g x0 x1 x2 x3 (Go.Sort.grow (wr.drewN d) os)).mono fun _ _ ⟨h1, p, h2⟩ => ⟨h1, p.n, p.os, h2⟩)
      repeat (first | go_big_quiet_step (exact cO _ _ _ _ _ _) | quiet_step (exact cO _ _ _ _ _ _))
      refine wpQuiet_nil ?_
      intro _ hw'
      obtain ⟨⟨dq, osq⟩, hw''⟩ := hw'
      subst hw''
      have Q0 := Kq0 dq osq
      have hb1 : Grew wr (Go.Sort.grow (wr.drewN dq) osq) := ⟨⟨dq, osq⟩, rfl⟩
      clear Ka0 Ka1 Ka2 Ka3 Kb0 Kb1 Kb2 Kb3 Kq0 Kq1 cO
      clear hbs
      generalize Go.Sort.grow (wr.drewN dq) osq = w1 at *
      go_wp2_with fail
      go_roundw
      case rel => exact ⟨0+1, by omega, rfl, hb.trans hb1⟩
      case measure => simp [intOf]
    | 1, _ =>
      have H1 := Lib.hid H.out
      go_wp2_with fail
      refine wp_region_quiet_grown (by kernel_rfl) (by kernel_rfl) ?_
      have cO := fun (x0 x1 x2 x3 : Int) (d : Nat) (os : Array Obj) => Calls.grown_of ((of1_g x0 x1 x2 x3 (Go.Sort.grow (wr.drewN d) os)).mono fun _ _ ⟨h1, p, h2⟩ => ⟨h1, p.n, p.os, h2⟩)
      repeat (first | go_big_quiet_step (exact cO _ _ _ _ _ _) | quiet_step (exact cO _ _ _ _ _ _))
      refine wpQuiet_nil ?_
      intro _ hw'
      obtain ⟨⟨dq, osq⟩, hw''⟩ := hw'
      subst hw''
      have Q0 := Kq1 dq osq
      have hb1 : Grew wr (Go.Sort.grow (wr.drewN dq) osq) := ⟨⟨dq, osq⟩, rfl⟩
      clear Ka0 Ka1 Ka2 Ka3 Kb0 Kb1 Kb2 Kb3 Kq0 Kq1 cO
      clear hbs
      generalize Go.Sort.grow (wr.drewN dq) osq = w1 at *
      have H2 := H.out
      go_wp2_with fail
      go_ret
      exact ⟨rfl, (((((Grew.refl w).alloc _).alloc _).alloc _).trans hb).trans hb1⟩

set_option maxHeartbeats 2000000 in
theorem apart2 (r c b p b2 p2 : Int) (w : World) (h : (b == b2) = false) :
    Calls Try.prog 80 #[vv r c b p, vv r c b2 p2] w fun e w' => e = .returned (.iface 149 (.agg #[])) ∧ Grew w w' := by
  have mof0 := meth_of0
  have mof1 := meth_of1
  have mof2 := meth_of2
  have H := Lib.hid h
  clear h
  go_enter Try.func80, Try.ntmps80
  go_wp2_with (go_at_call 85; refine (parts_any _).mono ?_; rintro e w' ⟨rfl, rfl⟩)
  go_loopw [6] (fun i wr => ∃ k : Nat, k ≤ 2 ∧ i = .int .i64 k ∧ Grew (((w.alloc (.cells #[.int .i64 r, .int .i64 c, .int .i64 b, .int .i64 p] 103)).alloc (.cells #[.int .i64 r, .int .i64 c, .int .i64 b2, .int .i64 p2] 103)).alloc partsObj) wr) (fun i _ => 2 - (intOf i).toNat)
  case atStart => exact ⟨0, by omega, rfl, Grew.refl _⟩
  case round =>
    obtain ⟨k, hk, rfl, hb⟩ := hrel
    have hbb := hb.below
    have hbs := hbb.size
    simp at hbs
    obtain ⟨hc, hf⟩ := bcell hbb
    have a0 : wr.cell? ⟨w.heap.size, 0, none⟩ = some (.int .i64 r) := by rw [hc _ _ (by simp; try omega)]; go_simp
    have a1 : wr.cell? ⟨w.heap.size, 1, none⟩ = some (.int .i64 c) := by rw [hc _ _ (by simp; try omega)]; go_simp
    have a2 : wr.cell? ⟨w.heap.size, 2, none⟩ = some (.int .i64 b) := by rw [hc _ _ (by simp; try omega)]; go_simp
    have a3 : wr.cell? ⟨w.heap.size, 3, none⟩ = some (.int .i64 p) := by rw [hc _ _ (by simp; try omega)]; go_simp
    have b0 : wr.cell? ⟨w.heap.size + 1, 0, none⟩ = some (.int .i64 r) := by rw [hc _ _ (by simp; try omega)]; go_simp
    have b1 : wr.cell? ⟨w.heap.size + 1, 1, none⟩ = some (.int .i64 c) := by rw [hc _ _ (by simp; try omega)]; go_simp
    have b2 : wr.cell? ⟨w.heap.size + 1, 2, none⟩ = some (.int .i64 b2) := by rw [hc _ _ (by simp; try omega)]; go_simp
    have b3 : wr.cell? ⟨w.heap.size + 1, 3, none⟩ = some (.int .i64 p2) := by rw [hc _ _ (by simp; try omega)]; go_simp
    have q0 : wr.cell? ⟨w.heap.size + 2, 0, none⟩ = some (.iface 147 (.agg #[])) := by rw [hc _ _ (by simp; try omega)]; go_simp
    have q1 : wr.cell? ⟨w.heap.size + 2, 1, none⟩ = some (.iface 148 (.agg #[])) := by rw [hc _ _ (by simp; try omega)]; go_simp
    have q2 : wr.cell? ⟨w.heap.size + 2, 2, none⟩ = some (.iface 149 (.agg #[])) := by rw [hc _ _ (by simp; try omega)]; go_simp
    clear hc hf hbb
    have Ka0 := cell_grown (a := ⟨w.heap.size, 0, none⟩) (show w.heap.size < wr.heap.size by omega) a0
    have Ka1 := cell_grown (a := ⟨w.heap.size, 1, none⟩) (show w.heap.size < wr.heap.size by omega) a1
    have Ka2 := cell_grown (a := ⟨w.heap.size, 2, none⟩) (show w.heap.size < wr.heap.size by omega) a2
    have Ka3 := cell_grown (a := ⟨w.heap.size, 3, none⟩) (show w.heap.size < wr.heap.size by omega) a3
    have Kb0 := cell_grown (a := ⟨w.heap.size + 1, 0, none⟩) (show w.heap.size + 1 < wr.heap.size by omega) b0
    have Kb1 := cell_grown (a := ⟨w.heap.size + 1, 1, none⟩) (show w.heap.size + 1 < wr.heap.size by omega) b1
    have Kb2 := cell_grown (a := ⟨w.heap.size + 1, 2, none⟩) (show w.heap.size + 1 < wr.heap.size by omega) b2
    have Kb3 := cell_grown (a := ⟨w.heap.size + 1, 3, none⟩) (show w.heap.size + 1 < wr.heap.size by omega) b3
    have Kq0 := cell_grown (a := ⟨w.heap.size + 2, 0, none⟩) (show w.heap.size + 2 < wr.heap.size by omega) q0
    have Kq1 := cell_grown (a := ⟨w.heap.size + 2, 1, none⟩) (show w.heap.size + 2 < wr.heap.size by omega) q1
    have Kq2 := cell_grown (a := ⟨w.heap.size + 2, 2, none⟩) (show w.heap.size + 2 < wr.heap.size by omega) q2
    clear a0 a1 a2 a3 b0 b1 b2 b3
    match k, hk with
    | 0, _ =>
      have H1 := Lib.hid H.out
      go_wp2_with fail
      refine wp_region_quiet_grown (by kernel_rfl) (by kernel_rfl) ?_
      have cO := fun (x0 x1 x2 x3 : Int) (d : Nat) (os : Array Obj) => Calls.grown_of ((of0_g x0 x1 x2 x3 (Go.Sort.grow (wr.drewN d) os)).mono fun _ _ ⟨h1, p, h2⟩ => ⟨h1, p.n, p.os, h2⟩)
      repeat (first | go_big_quiet_step (exact cO _ _ _ _ _ _) | quiet_step (exact cO _ _ _ _ _ _))
      refine wpQuiet_nil ?_
      intro _ hw'
      obtain ⟨⟨dq, osq⟩, hw''⟩ := hw'
      subst hw''
      have Q0 := Kq0 dq osq
      have hb1 : Grew wr (Go.Sort.grow (wr.drewN dq) osq) := ⟨⟨dq, osq⟩, rfl⟩
      clear Ka0 Ka1 Ka2 Ka3 Kb0 Kb1 Kb2 Kb3 Kq0 Kq1 Kq2 cO
      clear hbs
      generalize Go.Sort.grow (wr.drewN dq) osq = w1 at *
      go_wp2_with fail
      go_roundw
      case rel => exact ⟨0+1, by omega, rfl, hb.trans hb1⟩
      case measure => simp [intOf]
    | 1, _ =>
      have H1 := Lib.hid H.out
      go_wp2_with fail
      refine wp_region_quiet_grown (by kernel_rfl) (by kernel_rfl) ?_
      have cO := fun (x0 x1 x2 x3 : Int) (d : Nat) (os : Array Obj) => Calls.grown_of ((of1_g x0 x1 x2 x3 (Go.Sort.grow (wr.drewN d) os)).mono fun _ _ ⟨h1, p, h2⟩ => ⟨h1, p.n, p.os, h2⟩)
      repeat (first | go_big_quiet_step (exact cO _ _ _ _ _ _) | quiet_step (exact cO _ _ _ _ _ _))
      refine wpQuiet_nil ?_
      intro _ hw'
      obtain ⟨⟨dq, osq⟩, hw''⟩ := hw'
      subst hw''
      have Q0 := Kq1 dq osq
      have hb1 : Grew wr (Go.Sort.grow (wr.drewN dq) osq) := ⟨⟨dq, osq⟩, rfl⟩
      clear Ka0 Ka1 Ka2 Ka3 Kb0 Kb1 Kb2 Kb3 Kq0 Kq1 Kq2 cO
      clear hbs
      generalize Go.Sort.grow (wr.drewN dq) osq = w1 at *
      go_wp2_with fail
      go_roundw
      case rel => exact ⟨1+1, by omega, rfl, hb.trans hb1⟩
      case measure => simp [intOf]
    | 2, _ =>
      have H1 := Lib.hid H.out
      go_wp2_with fail
      refine wp_region_quiet_grown (by kernel_rfl) (by kernel_rfl) ?_
      have cO := fun (x0 x1 x2 x3 : Int) (d : Nat) (os : Array Obj) => Calls.grown_of ((of2_g x0 x1 x2 x3 (Go.Sort.grow (wr.drewN d) os)).mono fun _ _ ⟨h1, p, h2⟩ => ⟨h1, p.n, p.os, h2⟩)
      repeat (first | go_big_quiet_step (exact cO _ _ _ _ _ _) | quiet_step (exact cO _ _ _ _ _ _))
      refine wpQuiet_nil ?_
      intro _ hw'
      obtain ⟨⟨dq, osq⟩, hw''⟩ := hw'
      subst hw''
      have Q0 := Kq2 dq osq
      have hb1 : Grew wr (Go.Sort.grow (wr.drewN dq) osq) := ⟨⟨dq, osq⟩, rfl⟩
      clear Ka0 Ka1 Ka2 Ka3 Kb0 Kb1 Kb2 Kb3 Kq0 Kq1 Kq2 cO
      clear hbs
      generalize Go.Sort.grow (wr.drewN dq) osq = w1 at *
      have H2 := H.out
      go_wp2_with fail
      go_ret
      exact ⟨rfl, (((((Grew.refl w).alloc _).alloc _).alloc _).trans hb).trans hb1⟩

set_option maxHeartbeats 2000000 in
theorem apart3 (r c b p p2 : Int) (w : World) (h : (p == p2) = false) :
    Calls Try.prog 80 #[vv r c b p, vv r c b p2] w fun e w' => e = .returned (.iface 150 (.agg #[])) ∧ Grew w w' := by
  have mof0 := meth_of0
  have mof1 := meth_of1
  have mof2 := meth_of2
  have mof3 := meth_of3
  have H := Lib.hid h
  clear h
  go_enter Try.func80, Try.ntmps80
  go_wp2_with (go_at_call 85; refine (parts_any _).mono ?_; rintro e w' ⟨rfl, rfl⟩)
  go_loopw [6] (fun i wr => ∃ k : Nat, k ≤ 3 ∧ i = .int .i64 k ∧ Grew (((w.alloc (.cells #[.int .i64 r, .int .i64 c, .int .i64 b, .int .i64 p] 103)).alloc (.cells #[.int .i64 r, .int .i64 c, .int .i64 b, .int .i64 p2] 103)).alloc partsObj) wr) (fun i _ => 3 - (intOf i).toNat)
  case atStart => exact ⟨0, by omega, rfl, Grew.refl _⟩
  case round =>
    obtain ⟨k, hk, rfl, hb⟩ := hrel
    have hbb := hb.below
    have hbs := hbb.size
    simp at hbs
    obtain ⟨hc, hf⟩ := bcell hbb
    have a0 : wr.cell? ⟨w.heap.size, 0, none⟩ = some (.int .i64 r) := by rw [hc _ _ (by simp; try omega)]; go_simp
    have a1 : wr.cell? ⟨w.heap.size, 1, none⟩ = some (.int .i64 c) := by rw [hc _ _ (by simp; try omega)]; go_simp
    have a2 : wr.cell? ⟨w.heap.size, 2, none⟩ = some (.int .i64 b) := by rw [hc _ _ (by simp; try omega)]; go_simp
    have a3 : wr.cell? ⟨w.heap.size, 3, none⟩ = some (.int .i64 p) := by rw [hc _ _ (by simp; try omega)]; go_simp
    have b0 : wr.cell? ⟨w.heap.size + 1, 0, none⟩ = some (.int .i64 r) := by rw [hc _ _ (by simp; try omega)]; go_simp
    have b1 : wr.cell? ⟨w.heap.size + 1, 1, none⟩ = some (.int .i64 c) := by rw [hc _ _ (by simp; try omega)]; go_simp
    have b2 : wr.cell? ⟨w.heap.size + 1, 2, none⟩ = some (.int .i64 b) := by rw [hc _ _ (by simp; try omega)]; go_simp
    have b3 : wr.cell? ⟨w.heap.size + 1, 3, none⟩ = some (.int .i64 p2) := by rw [hc _ _ (by simp; try omega)]; go_simp
    have q0 : wr.cell? ⟨w.heap.size + 2, 0, none⟩ = some (.iface 147 (.agg #[])) := by rw [hc _ _ (by simp; try omega)]; go_simp
    have q1 : wr.cell? ⟨w.heap.size + 2, 1, none⟩ = some (.iface 148 (.agg #[])) := by rw [hc _ _ (by simp; try omega)]; go_simp
    have q2 : wr.cell? ⟨w.heap.size + 2, 2, none⟩ = some (.iface 149 (.agg #[])) := by rw [hc _ _ (by simp; try omega)]; go_simp
    have q3 : wr.cell? ⟨w.heap.size + 2, 3, none⟩ = some (.iface 150 (.agg #[])) := by rw [hc _ _ (by simp; try omega)]; go_simp
    clear hc hf hbb
    have Ka0 := cell_grown (a := ⟨w.heap.size, 0, none⟩) (show w.heap.size < wr.heap.size by omega) a0
    have Ka1 := cell_grown (a := ⟨w.heap.size, 1, none⟩) (show w.heap.size < wr.heap.size by omega) a1
    have Ka2 := cell_grown (a := ⟨w.heap.size, 2, none⟩) (show w.heap.size < wr.heap.size by omega) a2
    have Ka3 := cell_grown (a := ⟨w.heap.size, 3, none⟩) (show w.heap.size < wr.heap.size by omega) a3
    have Kb0 := cell_grown (a := ⟨w.heap.size + 1, 0, none⟩) (show w.heap.size + 1 < wr.heap.size by omega) b0
    have Kb1 := cell_grown (a := ⟨w.heap.size + 1, 1, none⟩) (show w.heap.size + 1 < wr.heap.size by omega) b1
    have Kb2 := cell_grown (a := ⟨w.heap.size + 1, 2, none⟩) (show w.heap.size + 1 < wr.heap.size by omega) b2
    have Kb3 := cell_grown (a := ⟨w.heap.size + 1, 3, none⟩) (show w.heap.size + 1 < wr.heap.size by omega) b3
    have Kq0 := cell_grown (a := ⟨w.heap.size + 2, 0, none⟩) (show w.heap.size + 2 < wr.heap.size by omega) q0
    have Kq1 := cell_grown (a := ⟨w.heap.size + 2, 1, none⟩) (show w.heap.size + 2 < wr.heap.size by omega) q1
    have Kq2 := cell_grown (a := ⟨w.heap.size + 2, 2, none⟩) (show w.heap.size + 2 < wr.heap.size by omega) q2
    have Kq3 := cell_grown (a := ⟨w.heap.size + 2, 3, none⟩) (show w.heap.size + 2 < wr.heap.size by omega) q3
    clear a0 a1 a2 a3 b0 b1 b2 b3
    match k, hk with
    | 0, _ =>
      have H1 := Lib.hid H.out
      go_wp2_with fail
      refine wp_region_quiet_grown (by kernel_rfl) (by kernel_rfl) ?_
      have cO := fun (x0 x1 x2 x3 : Int) (d : Nat) (os : Array Obj) => Calls.grown_of ((of0_g x0 x1 x2 x3 (Go.Sort.grow (wr.drewN d) os)).mono fun _ _ ⟨h1, p, h2⟩ => ⟨h1, p.n, p.os, h2⟩)
      repeat (first | go_big_quiet_step (exact cO _ _ _ _ _ _) | quiet_step (exact cO _ _ _ _ _ _))
      refine wpQuiet_nil ?_
      intro _ hw'
      obtain ⟨⟨dq, osq⟩, hw''⟩ := hw'
      subst hw''
      have Q0 := Kq0 dq osq
      have hb1 : Grew wr (Go.Sort.grow (wr.drewN dq) osq) := ⟨⟨dq, osq⟩, rfl⟩
      clear Ka0 Ka1 Ka2 Ka3 Kb0 Kb1 Kb2 Kb3 Kq0 Kq1 Kq2 Kq3 cO
      clear hbs
      generalize Go.Sort.grow (wr.drewN dq) osq = w1 at *
      go_wp2_with fail
      go_roundw
      case rel => exact ⟨0+1, by omega, rfl, hb.trans hb1⟩
      case measure => simp [intOf]
    | 1, _ =>
      have H1 := Lib.hid H.out
      go_wp2_with fail
      refine wp_region_quiet_grown (by kernel_rfl) (by kernel_rfl) ?_
      have cO := fun (x0 x1 x2 x3 : Int) (d : Nat) (os : Array Obj) => Calls.grown_of ((of1_g x0 x1 x2 x3 (Go.Sort.grow (wr.drewN d) os)).mono fun _ _ ⟨h1, p, h2⟩ => ⟨h1, p.n, p.os, h2⟩)
      repeat (first | go_big_quiet_step (exact cO _ _ _ _ _ _) | quiet_step (exact cO _ _ _ _ _ _))
      refine wpQuiet_nil ?_
      intro _ hw'
      obtain ⟨⟨dq, osq⟩, hw''⟩ := hw'
      subst hw''
      have Q0 := Kq1 dq osq
      have hb1 : Grew wr (Go.Sort.grow (wr.drewN dq) osq) := ⟨⟨dq, osq⟩, rfl⟩
      clear Ka0 Ka1 Ka2 Ka3 Kb0 Kb1 Kb2 Kb3 Kq0 Kq1 Kq2 Kq3 cO
      clear hbs
      generalize Go.Sort.grow (wr.drewN dq) osq = w1 at *
      go_wp2_with fail
      go_roundw
      case rel => exact ⟨1+1, by omega, rfl, hb.trans hb1⟩
      case measure => simp [intOf]
    | 2, _ =>
      have H1 := Lib.hid H.out
      go_wp2_with fail
      refine wp_region_quiet_grown (by kernel_rfl) (by kernel_rfl) ?_
      have cO := fun (x0 x1 x2 x3 : Int) (d : Nat) (os : Array Obj) => Calls.grown_of ((of2_g x0 x1 x2 x3 (Go.Sort.grow (wr.drewN d) os)).mono fun _ _ ⟨h1, p, h2⟩ => ⟨h1, p.n, p.os, h2⟩)
      repeat (first | go_big_quiet_step (exact cO _ _ _ _ _ _) | quiet_step (exact cO _ _ _ _ _ _))
      refine wpQuiet_nil ?_
      intro _ hw'
      obtain ⟨⟨dq, osq⟩, hw''⟩ := hw'
      subst hw''
      have Q0 := Kq2 dq osq
      have hb1 : Grew wr (Go.Sort.grow (wr.drewN dq) osq) := ⟨⟨dq, osq⟩, rfl⟩
      clear Ka0 Ka1 Ka2 Ka3 Kb0 Kb1 Kb2 Kb3 Kq0 Kq1 Kq2 Kq3 cO
      clear hbs
      generalize Go.Sort.grow (wr.drewN dq) osq = w1 at *
      go_wp2_with fail
      go_roundw
      case rel => exact ⟨2+1, by omega, rfl, hb.trans hb1⟩
      case measure => simp [intOf]
    | 3, _ =>
      have H1 := Lib.hid H.out
      go_wp2_with fail
      refine wp_region_quiet_grown (by kernel_rfl) (by kernel_rfl) ?_
      have cO := fun (x0 x1 x2 x3 : Int) (d : Nat) (os : Array Obj) => Calls.grown_of ((of3_g x0 x1 x2 x3 (Go.Sort.grow (wr.drewN d) os)).mono fun _ _ ⟨h1, p, h2⟩ => ⟨h1, p.n, p.os, h2⟩)
      repeat (first | go_big_quiet_step (exact cO _ _ _ _ _ _) | quiet_step (exact cO _ _ _ _ _ _))
      refine wpQuiet_nil ?_
      intro _ hw'
      obtain ⟨⟨dq, osq⟩, hw''⟩ := hw'
      subst hw''
      have Q0 := Kq3 dq osq
      have hb1 : Grew wr (Go.Sort.grow (wr.drewN dq) osq) := ⟨⟨dq, osq⟩, rfl⟩
      clear Ka0 Ka1 Ka2 Ka3 Kb0 Kb1 Kb2 Kb3 Kq0 Kq1 Kq2 Kq3 cO
      clear hbs
      generalize Go.Sort.grow (wr.drewN dq) osq = w1 at *
      have H2 := H.out
      go_wp2_with fail
      go_ret
      exact ⟨rfl, (((((Grew.refl w).alloc _).alloc _).alloc _).trans hb).trans hb1⟩

end Go.Proofs.Ytplgaenfcaphnaa.VecP
