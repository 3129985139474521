/-
  Contracts of cmp.Or and wheel.compare.
-/
import Derived.Test.YtnghilcjecjljaaWheelA
import Derived.Test.YtnghilcjecjljaaGrew
namespace Go.Proofs.Ytnghilcjecjljaa.WheelP
open Go.RowKit Go.Sort Go.Proofs.Ytnghilcjecjljaa.SliceP Go.Proofs.Ytnghilcjecjljaa.MacP
set_option linter.unusedVariables false
set_option maxRecDepth 100000

def orI (a b : Int) : Int := if a == 0 then b else a
set_option maxHeartbeats 1000000 in
theorem or_any (b o : Nat) (x y : Int) (w : World) (hx : w.cell? ⟨b, o, none⟩ = some (.int .i64 x)) (hy : w.cell? ⟨b, o + 1, none⟩ = some (.int .i64 y)) :
    Calls Try.prog 89 #[.slice (some ⟨b, o, none⟩) 2 2] w fun e w' => e = .returned (.int .i64 (orI x y)) ∧ w = w' := by
  cases h1 : x == 0
  · have e : orI x y = x := by unfold orI; rw [h1]; rfl
    rw [e]; clear e
    have h2 : (x != 0) = true := by rw [bne, h1]; rfl
    go_enter Try.func89, Try.ntmps89
    go_wp2
    go_loop [8] (fun i => ∃ k : Nat, k ≤ 0 ∧ i = .int .i64 k) (fun i => 0 - (intOf i).toNat)
    case atStart => exact ⟨0, by omega, rfl⟩
    case round =>
      obtain ⟨k, hk, rfl⟩ := hrel
      match k, hk with
      | 0, _ =>
        go_wp2
        go_ret
        exact ⟨rfl, rfl⟩
  · obtain rfl : x = 0 := by simpa using h1
    have e : orI 0 y = y := rfl
    rw [e]; clear e h1
    cases h2 : y == 0
    · have h3 : (y != 0) = true := by rw [bne, h2]; rfl
      go_enter Try.func89, Try.ntmps89
      go_wp2
      go_loop [8] (fun i => ∃ k : Nat, k ≤ 1 ∧ i = .int .i64 k) (fun i => 1 - (intOf i).toNat)
      case atStart => exact ⟨0, by omega, rfl⟩
      case round =>
        obtain ⟨k, hk, rfl⟩ := hrel
        match k, hk with
        | 0, _ =>
          go_wp2
          go_round
          case rel => exact ⟨0 + 1, by omega, rfl⟩
          case measure => simp [intOf]
        | 1, _ =>
          go_wp2
          go_ret
          exact ⟨rfl, rfl⟩
    · obtain rfl : y = 0 := by simpa using h2
      clear h2
      go_enter Try.func89, Try.ntmps89
      go_wp2
      go_loop [8] (fun i => ∃ k : Nat, k ≤ 2 ∧ i = .int .i64 k) (fun i => 2 - (intOf i).toNat)
      case atStart => exact ⟨0, by omega, rfl⟩
      case round =>
        obtain ⟨k, hk, rfl⟩ := hrel
        match k, hk with
        | 0, _ =>
          go_wp2
          go_round
          case rel => exact ⟨0 + 1, by omega, rfl⟩
          case measure => simp [intOf]
        | 1, _ =>
          go_wp2
          go_round
          case rel => exact ⟨1 + 1, by omega, rfl⟩
          case measure => simp [intOf]
        | 2, _ =>
          go_wp2
          go_ret
          exact ⟨rfl, rfl⟩

/-- What compare tells. -/
def cmpT (x y : T) : Int := orI (cmpI x.due y.due) (cmpI x.id y.id)
def cVal (B : Nat) (x y : T) : Nat → Value
  | 0 => .pointer (some ⟨B, 1, none⟩)
  | 1 => .int .i64 x.due
  | 2 => .pointer (some ⟨B + 1, 1, none⟩)
  | 3 => .int .i64 y.due
  | 4 => .int .i64 (cmpI x.due y.due)
  | 5 => .pointer (some ⟨B, 0, none⟩)
  | 6 => .int .i64 x.id
  | 7 => .pointer (some ⟨B + 1, 0, none⟩)
  | 8 => .int .i64 y.id
  | 9 => .int .i64 (cmpI x.id y.id)
  | 10 => undef
  | 11 => .int .i64 (cmpT x y)
  | 12 => .int .i64 (cmpT x y)
  | _ => undef
def cRow (x y : T) (v : Value) (w : World) : Prop := ∃ b, v = .slice (some ⟨b, 0, none⟩) 2 2 ∧ b < w.heap.size ∧ w.cell? ⟨b, 0, none⟩ = some (.int .i64 (cmpI x.due y.due)) ∧ w.cell? ⟨b, 0 + 1, none⟩ = some (.int .i64 (cmpI x.id y.id))
def cSp (B : Nat) (x y : T) (i : Nat) (v : Value) (w : World) : Prop := if i = 10 then cRow x y v w else v = cVal B x y i
theorem cSp_mono (B : Nat) (x y : T) (i : Nat) (v : Value) (w w' : World) (h : cSp B x y i v w) (hg : Grew w w') : cSp B x y i v w' := by
  unfold cSp at *
  have hb := hg.below
  split
  · rw [if_pos (by assumption)] at h
    obtain ⟨b, rfl, hl, h0, h1⟩ := h
    exact ⟨b, rfl, Nat.lt_of_lt_of_le hl hb.size, (hb.cell (p := ⟨b, 0, none⟩) hl).trans h0, (hb.cell (p := ⟨b, 0 + 1, none⟩) hl).trans h1⟩
  · rw [if_neg (by assumption)] at h; exact h
def cSlot (i : Nat) : Nat := if i = 12 then 4 else i + 5

set_option maxHeartbeats 2000000 in
theorem compare_any (x y : T) (w : World) :
    Calls Try.prog 76 #[tv x.id x.due, tv y.id y.due] w fun e w' => e = .returned (.int .i64 (cmpT x y)) ∧ Grew w w' := by
  go_enter Try.func76, Try.ntmps76
  go_wp2_with fail
  have bel : Grew w ((w.alloc (tObj x.id x.due)).alloc (tObj y.id y.due)) := ((Grew.refl w).alloc _).alloc _
  have x0 : ((w.alloc (tObj x.id x.due)).alloc (tObj y.id y.due)).cell? ⟨w.heap.size, 0, none⟩ = some (.int .i64 x.id) := by go_simp
  have x1 : ((w.alloc (tObj x.id x.due)).alloc (tObj y.id y.due)).cell? ⟨w.heap.size, 1, none⟩ = some (.int .i64 x.due) := by go_simp
  have y0 : ((w.alloc (tObj x.id x.due)).alloc (tObj y.id y.due)).cell? ⟨w.heap.size + 1, 0, none⟩ = some (.int .i64 y.id) := by go_simp
  have y1 : ((w.alloc (tObj x.id x.due)).alloc (tObj y.id y.due)).cell? ⟨w.heap.size + 1, 1, none⟩ = some (.int .i64 y.due) := by go_simp
  have lt1 : w.heap.size + 1 < ((w.alloc (tObj x.id x.due)).alloc (tObj y.id y.due)).heap.size := by simp
  have lt0 : w.heap.size < ((w.alloc (tObj x.id x.due)).alloc (tObj y.id y.due)).heap.size := by simp; omega
  generalize (w.alloc (tObj x.id x.due)).alloc (tObj y.id y.due) = W at *
  replace bel := Lib.hid bel
  replace lt1 := Lib.hid lt1
  replace lt0 := Lib.hid lt0
  refine wp_region_rel (by kernel_rfl) Grew (fun h k => h.trans k) Grew.drawn cSlot (by kernel_rfl) (by kernel_rfl) (cSp w.heap.size x y) (cSp_mono w.heap.size x y) ?_ ?_
  · refine ⟨?_, ?_, ?_, ?_, ?_, ?_, ?_, ?_, ?_, ?_, ?_, ?_, ?_, trivial⟩
    · intro a w1 K hb hdep hk hK
      have h2 : a.tmps.getD 2 undef = .pointer (some ⟨w.heap.size, 0, none⟩) := hk 2 (by kernel_rfl)
      go_simp
      exact hK _ _ rfl (Grew.refl _)
    · intro a w1 K hb hdep hk hK
      have d0 : a.tmps.getD 5 undef = .pointer (some ⟨w.heap.size, 1, none⟩) := hdep ⟨0, .data⟩ (by simp) rfl
      have kc : w1.cell? ⟨w.heap.size, 1, none⟩ = some (.int .i64 x.due) := (hb.below.cell (p := ⟨w.heap.size, 1, none⟩) lt0.out).trans x1
      go_simp
      exact hK _ _ rfl (Grew.refl _)
    · intro a w1 K hb hdep hk hK
      have h3 : a.tmps.getD 3 undef = .pointer (some ⟨w.heap.size + 1, 0, none⟩) := hk 3 (by kernel_rfl)
      go_simp
      exact hK _ _ rfl (Grew.refl _)
    · intro a w1 K hb hdep hk hK
      have d2 : a.tmps.getD 7 undef = .pointer (some ⟨w.heap.size + 1, 1, none⟩) := hdep ⟨2, .data⟩ (by simp) rfl
      have kc : w1.cell? ⟨w.heap.size + 1, 1, none⟩ = some (.int .i64 y.due) := (hb.below.cell (p := ⟨w.heap.size + 1, 1, none⟩) lt1.out).trans y1
      go_simp
      exact hK _ _ rfl (Grew.refl _)
    · intro a w1 K hb hdep hk hK
      have d1 : a.tmps.getD 6 undef = .int .i64 x.due := hdep ⟨1, .data⟩ (by simp) rfl
      have d3 : a.tmps.getD 8 undef = .int .i64 y.due := hdep ⟨3, .data⟩ (by simp) rfl
      go_simp
      refine (compare_int _ _ _).mono ?_
      rintro e w2 ⟨rfl, rfl⟩
      exact hK _ _ rfl (Grew.refl _)
    · intro a w1 K hb hdep hk hK
      have h2 : a.tmps.getD 2 undef = .pointer (some ⟨w.heap.size, 0, none⟩) := hk 2 (by kernel_rfl)
      go_simp
      exact hK _ _ rfl (Grew.refl _)
    · intro a w1 K hb hdep hk hK
      have d5 : a.tmps.getD 10 undef = .pointer (some ⟨w.heap.size, 0, none⟩) := hdep ⟨5, .data⟩ (by simp) rfl
      have kc : w1.cell? ⟨w.heap.size, 0, none⟩ = some (.int .i64 x.id) := (hb.below.cell (p := ⟨w.heap.size, 0, none⟩) lt0.out).trans x0
      go_simp
      exact hK _ _ rfl (Grew.refl _)
    · intro a w1 K hb hdep hk hK
      have h3 : a.tmps.getD 3 undef = .pointer (some ⟨w.heap.size + 1, 0, none⟩) := hk 3 (by kernel_rfl)
      go_simp
      exact hK _ _ rfl (Grew.refl _)
    · intro a w1 K hb hdep hk hK
      have d7 : a.tmps.getD 12 undef = .pointer (some ⟨w.heap.size + 1, 0, none⟩) := hdep ⟨7, .data⟩ (by simp) rfl
      have kc : w1.cell? ⟨w.heap.size + 1, 0, none⟩ = some (.int .i64 y.id) := (hb.below.cell (p := ⟨w.heap.size + 1, 0, none⟩) lt1.out).trans y0
      go_simp
      exact hK _ _ rfl (Grew.refl _)
    · intro a w1 K hb hdep hk hK
      have d6 : a.tmps.getD 11 undef = .int .i64 x.id := hdep ⟨6, .data⟩ (by simp) rfl
      have d8 : a.tmps.getD 13 undef = .int .i64 y.id := hdep ⟨8, .data⟩ (by simp) rfl
      go_simp
      refine (compare_int _ _ _).mono ?_
      rintro e w2 ⟨rfl, rfl⟩
      exact hK _ _ rfl (Grew.refl _)
    · intro a w1 K hb hdep hk hK
      have d4 : a.tmps.getD 9 undef = .int .i64 (cmpI x.due y.due) := hdep ⟨4, .data⟩ (by simp) rfl
      have d9 : a.tmps.getD 14 undef = .int .i64 (cmpI x.id y.id) := hdep ⟨9, .data⟩ (by simp) rfl
      have g9 : a.tmps[9]?.getD undef = .int .i64 (cmpI x.due y.due) := by simpa [Array.getD_eq_getD_getElem?] using d4
      have g14 : a.tmps[14]?.getD undef = .int .i64 (cmpI x.id y.id) := by simpa [Array.getD_eq_getD_getElem?] using d9
      clear d4 d9
      go_simp
      exact hK _ (w1.alloc (.cells #[.int .i64 (cmpI x.due y.due), .int .i64 (cmpI x.id y.id)] 3)) ⟨w1.heap.size, rfl, by simp, by go_simp, by go_simp⟩ ((Grew.refl _).alloc _)
    · intro a w1 K hb hdep hk hK
      obtain ⟨b, hv, hl, e0, e1⟩ : cRow x y (a.tmps.getD 15 undef) w1 := hdep ⟨10, .data⟩ (by simp) rfl
      go_simp
      refine (or_any b 0 _ _ _ e0 e1).mono ?_
      rintro e w2 ⟨rfl, rfl⟩
      exact hK _ _ rfl (Grew.refl _)
    · intro a w1 K hb hdep hk hK
      have d11 : a.tmps.getD 16 undef = .int .i64 (cmpT x y) := hdep ⟨11, .data⟩ (by simp) rfl
      go_simp
      exact hK _ _ rfl (Grew.refl _)
  · intro a w1 hb hsp hk hn hdf
    have h2 : a.tmps.getD 4 undef = .int .i64 (cmpT x y) := hsp 12 (by decide)
    have hB : Grew w w1 := bel.out.trans hb
    clear hsp hk
    show Exit.then _ _ _ _ _
    simp only [Exit.then]
    go_wp2_with fail
    exact bodyPost_ret (v := .int .i64 (cmpT x y)) (by simp only [results, Try.results76]; simp [go_sem] at h2 ⊢; exact h2) hdf ⟨rfl, hB⟩
end Go.Proofs.Ytnghilcjecjljaa.WheelP
