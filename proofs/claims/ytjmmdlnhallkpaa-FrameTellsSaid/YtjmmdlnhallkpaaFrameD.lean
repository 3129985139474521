/-
  Contracts of frame.Print and frame.Size.
-/
import Derived.Test.YtjmmdlnhallkpaaMacB
import Derived.Test.YtjmmdlnhallkpaaFrameC
import Derived.Deep.RegionWith
namespace Go.Proofs.Ytjmmdlnhallkpaa.MacP
open Go.RowKit
set_option linter.unusedVariables false

theorem bcell {W w1 : World} (hb : Below W.heap.size W w1) : (∀ b o, b < W.heap.size → w1.cell? ⟨b, o, none⟩ = W.cell? ⟨b, o, none⟩) ∧ (∀ b o, b < W.heap.size → w1.frozen? ⟨b, o, none⟩ = W.frozen? ⟨b, o, none⟩) :=
  ⟨fun b o h => hb.cell (p := ⟨b, o, none⟩) h, fun b o h => hb.frozen (p := ⟨b, o, none⟩) h⟩
def nums (x : ByteArray) : List Int := x.data.toList.map fun b => (b.toNat : Int)
theorem strOfNums_nums (x : ByteArray) : strOfNums (nums x) = x := by
  apply ByteArray.ext; apply Array.toList_inj.1
  rw [strOfNums_data, nums, List.map_map]
  conv => rhs; rw [← List.map_id x.data.toList]
  apply List.map_congr_left
  intro y _
  simp
/-- A frame's bytes. -/
def pBytes (d s t : Int) (x : ByteArray) : ByteArray := strOfNums (byteNums d ++ (byteNums s ++ ([t / 256, t % 256] ++ nums x)))
def four (d s t : Int) (x : ByteArray) : List ByteArray := [strOfNums (byteNums d), strOfNums (byteNums s), strOfNums [t / 256, t % 256], x]
theorem four_cat (d s t : Int) (x : ByteArray) : (⟨(cat (four d s t x)).toArray⟩ : ByteArray) = pBytes d s t x := by
  apply ByteArray.ext; apply Array.toList_inj.1
  have h : x.data.toList = (nums x).map fun n => UInt8.ofNat n.toNat := by rw [← strOfNums_data, strOfNums_nums]
  simp only [pBytes, strOfNums_data, cat, four, List.map_cons, List.map_nil, List.flatten_cons, List.flatten_nil, List.append_nil, List.map_append]
  rw [← h]
theorem four_len (d s t : Int) (x : ByteArray) : (cat (four d s t x)).length = 14 + x.size := by
  simp only [cat, four, List.map_cons, List.map_nil, List.flatten_cons, List.flatten_nil, List.append_nil, List.length_append, strOfNums_data, List.length_map, str_size]
  simp only [byteNums, List.length_cons, List.length_nil]; omega

theorem okB_yes {d s t : Int} {x : ByteArray} (h : okB d s t x = true) : rightB d = true ∧ srcB s = true ∧ 0 ≤ t ∧ t ≤ 65535 ∧ x.size ≤ 100 := by
  unfold okB at h
  simp only [Bool.and_eq_true, decide_eq_true_eq] at h
  obtain ⟨⟨⟨⟨a, b⟩, c⟩, d⟩, e⟩ := h
  exact ⟨a, b, c, d, e⟩
theorem srcB_right {s : Int} (h : srcB s = true) : rightB s = true := by unfold srcB at h; simp only [Bool.and_eq_true] at h; exact h.1
theorem fright_is (d s t : Int) (x : ByteArray) (b : Bool) (h : okB d s t x = b) (w : World) (hx : x.size ≤ maxLen) :
    Calls Try.prog 29 #[fv d s t x] w fun e w' => e = .returned (.bool b) ∧ Below w.heap.size w w' := by
  subst h; exact fright_any d s t x w hx
theorem join_four (d s t : Int) (x : ByteArray) (b c : Nat) (w : World) (hb : b < w.heap.size) (hx : x.size ≤ 100) (h0 : w.cell? ⟨b, 0, none⟩ = some (.string (strOfNums (byteNums d)))) (h1 : w.cell? ⟨b, 1, none⟩ = some (.string (strOfNums (byteNums s))))
    (h2 : w.cell? ⟨b, 2, none⟩ = some (.string (strOfNums [t / 256, t % 256]))) (h3 : w.cell? ⟨b, 3, none⟩ = some (.string x)) :
    Calls Try.prog 40 #[.slice (some ⟨b, 0, none⟩) 4 c] w fun e w' => e = .returned (.string (pBytes d s t x)) ∧ Below w.heap.size w w' :=
  (join_any (four d s t x) b c w hb (fun i hi => by
    match i, hi with
    | 0, _ => exact h0
    | 1, _ => exact h1
    | 2, _ => exact h2
    | 3, _ => exact h3
    | i + 4, hi => exact absurd hi (by simp [four])) (by rw [four_len]; omega) (by simp [four])).mono fun e w' ⟨g1, g2⟩ => ⟨by rw [g1, four_cat], g2⟩

set_option maxHeartbeats 1000000 in
theorem fprint_yes (d s t : Int) (x : ByteArray) (w : World) (h : okB d s t x = true) :
    Calls Try.prog 24 #[fv d s t x] w fun e w' => e = .returned (.tuple #[.string (pBytes d s t x), .int .i64 0]) ∧ Below w.heap.size w w' := by
  have H := Lib.hid h
  obtain ⟨hd, hs, t0, t1, hx⟩ := okB_yes h
  obtain ⟨d0, d1⟩ := rightB_yes hd
  obtain ⟨s0, s1⟩ := rightB_yes (srcB_right hs)
  have hm : x.size ≤ maxLen := by unfold maxLen; omega
  have HM := Lib.hid hm
  clear h hd hs hm
  go_enter Try.func24, Try.ntmps24
  go_wp2_with (first
    | (go_at_call 29; refine (fright_is _ _ _ _ _ H.out _ HM.out).mono ?_; rintro e w1 ⟨rfl, hb1⟩; obtain ⟨hc1, hf1⟩ := bcell hb1; have z1 : w.heap.size < w1.heap.size := by have := hb1.size; simp at this; omega)
    | (go_at_call 11; (with_reducible refine (bytes_yes _ _ (by assumption) (by assumption)).mono ?_); rintro e w2 ⟨rfl, hb2⟩; obtain ⟨hc2, hf2⟩ := bcell hb2; have z2 := Nat.lt_of_lt_of_le (by assumption : w.heap.size < _) hb2.size))
  have k2 : w2.cell? ⟨w.heap.size, 2, none⟩ = some (.int .i64 t) := by go_simp
  have k3 : w2.cell? ⟨w.heap.size, 3, none⟩ = some (.string x) := by go_simp
  have hb0 : Below w.heap.size w w2 := by
    refine Below.trans ?_ (hb2.mono (by omega))
    refine Below.trans ?_ (Below.mono (by assumption) (by omega))
    exact Below.trans ((Below.refl _ _).alloc (Nat.le_refl _) _) (hb1.mono (by simp))
  clear hc1 hf1 hc2 hf2 z1
  clear hb1 hb2
  have zz : w.heap.size < w2.heap.size := by assumption
  go_region_with (first
    | (go_at_call 41; (with_reducible refine (typeBytes_any _ _ t0 t1).mono ?_); rintro e w3 ⟨rfl, hb3⟩; have z3 : w.heap.size < w3.heap.size := Nat.lt_of_lt_of_le zz hb3.size; have k4 : w3.cell? ⟨w.heap.size, 3, none⟩ = some (.string x) := (hb3.cell (p := ⟨w.heap.size, 3, none⟩) zz).trans k3)
    | (go_at_call 40; (with_reducible refine (join_four d s t x _ _ _ (by simp) hx (by go_simp) (by go_simp) (by go_simp) (by go_simp)).mono ?_); rintro e w4 ⟨rfl, hb4⟩))
  all_goals
    go_wp2
    go_ret2
    refine ⟨rfl, ?_⟩
    refine Below.trans ?_ (Below.mono (by assumption) (by first | omega | (simp; try omega)))
    repeat (first | exact hb0 | apply Below.drew | refine Below.alloc ?_ (by first | omega | (simp; try omega)) _ | refine Below.trans ?_ (Below.mono (by assumption) (by first | omega | (simp; try omega))))

set_option maxHeartbeats 400000 in
theorem fprint_no (d s t : Int) (x : ByteArray) (w : World) (hm : x.size ≤ maxLen) (h : okB d s t x = false) :
    Calls Try.prog 24 #[fv d s t x] w fun e w' => e = .returned (.tuple #[.string ⟨#[]⟩, .int .i64 1]) ∧ Below w.heap.size w w' := by
  have H := Lib.hid h
  have HM := Lib.hid hm
  clear h hm
  go_enter Try.func24, Try.ntmps24
  go_wp2_with (go_at_call 29; refine (fright_is _ _ _ _ _ H.out _ HM.out).mono ?_; rintro e w1 ⟨rfl, hb1⟩)
  go_ret2
  exact ⟨rfl, Below.trans ((Below.refl _ _).alloc (Nat.le_refl _) _) (hb1.mono (by simp))⟩

theorem strOfNums_len (xs : List Int) : (strOfNums xs).size = xs.length := strOfNums_size xs
theorem pBytes_size (d s t : Int) (x : ByteArray) : (pBytes d s t x).size = 14 + x.size := by
  rw [pBytes, strOfNums_size]; simp [byteNums, nums]; omega

set_option maxHeartbeats 400000 in
theorem fsize_yes (d s t : Int) (x : ByteArray) (w : World) (h : okB d s t x = true) :
    Calls Try.prog 25 #[fv d s t x] w fun e w' => e = .returned (.tuple #[.int .i64 (14 + x.size : Nat), .int .i64 0]) ∧ Below w.heap.size w w' := by
  have HX := Lib.hid (pBytes_size d s t x)
  have hx := (okB_yes h).2.2.2.2
  have H := Lib.hid h
  clear h
  go_enter Try.func25, Try.ntmps25
  go_wp2_with (go_at_call 24; refine (fprint_yes _ _ _ _ _ H.out).mono ?_; rintro e w1 ⟨rfl, hb1⟩)
  go_ret2
  exact ⟨by rw [← HX.out]; rfl, Below.trans ((Below.refl _ _).alloc (Nat.le_refl _) _) (hb1.mono (by simp))⟩
set_option maxHeartbeats 400000 in
theorem fsize_no (d s t : Int) (x : ByteArray) (w : World) (hm : x.size ≤ maxLen) (h : okB d s t x = false) :
    Calls Try.prog 25 #[fv d s t x] w fun e w' => e = .returned (.tuple #[.int .i64 0, .int .i64 1]) ∧ Below w.heap.size w w' := by
  have H := Lib.hid h
  have HM := Lib.hid hm
  clear h hm
  go_enter Try.func25, Try.ntmps25
  go_wp2_with (go_at_call 24; refine (fprint_no _ _ _ _ _ HM.out H.out).mono ?_; rintro e w1 ⟨rfl, hb1⟩)
  go_ret2
  exact ⟨rfl, Below.trans ((Below.refl _ _).alloc (Nat.le_refl _) _) (hb1.mono (by simp))⟩
end Go.Proofs.Ytjmmdlnhallkpaa.MacP
