/-
  Contracts of the statements' few and alive, and of frame.Kind.
-/
import Derived.Test.YtjmmdlnhallkpaaFrameP
namespace Go.Proofs.Ytjmmdlnhallkpaa.MacP
open Go.RowKit
set_option linter.unusedVariables false

def PB (w : World) (d s t : Int) (x : ByteArray) (w' : World) : Prop := w'.cell? ⟨w.heap.size, 0, none⟩ = some (.int .i64 d) ∧ w'.cell? ⟨w.heap.size, 1, none⟩ = some (.int .i64 s) ∧ w'.cell? ⟨w.heap.size, 2, none⟩ = some (.int .i64 t) ∧ w'.cell? ⟨w.heap.size, 3, none⟩ = some (.string x) ∧ w.heap.size < w'.heap.size ∧ Below w.heap.size w w'
theorem PB_step {w : World} {d s t : Int} {x : ByteArray} {w' w'' : World} (h : PB w d s t x w') (hb : Below w'.heap.size w' w'') : PB w d s t x w'' := by
  obtain ⟨a, b, c, e, f, g⟩ := h
  exact ⟨(hb.cell (p := ⟨w.heap.size, 0, none⟩) f).trans a, (hb.cell (p := ⟨w.heap.size, 1, none⟩) f).trans b, (hb.cell (p := ⟨w.heap.size, 2, none⟩) f).trans c, (hb.cell (p := ⟨w.heap.size, 3, none⟩) f).trans e, Nat.lt_of_lt_of_le f hb.size, g.trans (hb.mono (Nat.le_of_lt f))⟩
theorem PB_alloc {w : World} {d s t : Int} {x : ByteArray} {w' : World} (h : PB w d s t x w') (o : Obj) : PB w d s t x (w'.alloc o) := PB_step h ((Below.refl _ _).alloc (Nat.le_refl _) _)
theorem PB_drew {w : World} {d s t : Int} {x : ByteArray} {w' : World} (h : PB w d s t x w') : PB w d s t x w'.drew := PB_step h (Below.refl _ _).drew
theorem PB_box (w : World) (d s t : Int) (x : ByteArray) : PB w d s t x (w.alloc (.cells #[.int .i64 d, .int .i64 s, .int .i64 t, .string x] 38)) :=
  ⟨by go_simp, by go_simp, by go_simp, by go_simp, by simp, (Below.refl _ _).alloc (Nat.le_refl _) _⟩
/-- A text's first n bytes. -/
def cutS (x : ByteArray) (n : Nat) : ByteArray := x.extract 0 (min (x.size : Int) (n : Int)).toNat
theorem cutS_if (x : ByteArray) (n : Nat) : cutS x n = x.extract 0 (if (n : Int) < (x.size : Int) then (n : Int) else (x.size : Int)).toNat := by
  unfold cutS
  congr 2
  split <;> omega
theorem cutS_size (x : ByteArray) (n : Nat) : (cutS x n).size ≤ n := by
  unfold cutS
  rw [ByteArray.size_extract]
  omega

set_option maxHeartbeats 400000 in
theorem few_any (d s t : Int) (x : ByteArray) (w : World) (hx : x.size ≤ maxLen) :
    Calls Try.prog 23 #[fv d s t x] w fun e w' => e = .returned (fv d s t (cutS x 130)) ∧ Below w.heap.size w w' := by
  unfold maxLen at hx
  have hc : Hid (cutS x 130 = x.extract 0 (min (x.size : Int) 130).toNat) := Lib.hid rfl
  go_enter Try.func23, Try.ntmps23
  go_wp2
  refine bodyPost_ret (v := fv d s t (cutS x 130)) (by simp [results, Try.results23, go_sem, hc.out]) rfl ⟨rfl, ?_⟩
  repeat (first | exact Below.refl _ _ | refine Below.setCell ?_ (by simp) _ | refine Below.alloc ?_ (by simp; try omega) _)

def aliveRaw : ByteArray := ⟨#[2, 0, 0, 0, 0, 1, 2, 0, 0, 0, 0, 2, 128, 66]⟩
theorem pE_alive : pE aliveRaw = 0 := by decide +kernel
theorem adr0_alive : adr aliveRaw 0 = 2199023255553 := by decide +kernel
theorem adr6_alive : adr aliveRaw 6 = 2199023255554 := by decide +kernel
theorem typ_alive : typ aliveRaw = 32834 := by decide +kernel
theorem dat_alive : dat aliveRaw = ⟨#[]⟩ := by decide +kernel
theorem fparse_alive (w : World) : Calls Try.prog 26 #[.string ⟨#[2, 0, 0, 0, 0, 1, 2, 0, 0, 0, 0, 2, 128, 66]⟩] w fun e w' => e = .returned (.tuple #[fv 2199023255553 2199023255554 32834 ⟨#[]⟩, .int .i64 0]) ∧ Below w.heap.size w w' :=
  (fparse_any aliveRaw w (by decide)).mono fun e w' ⟨h1, h2⟩ => ⟨by rw [h1, pTup_good _ pE_alive, adr0_alive, adr6_alive, typ_alive, dat_alive], h2⟩

set_option maxHeartbeats 400000 in
theorem falive_any (w : World) :
    Calls Try.prog 31 #[] w fun e w' => e = .returned (.bool true) ∧ Below w.heap.size w w' := by
  go_enter Try.func31, Try.ntmps31
  go_wp2_with (go_at_call 26; refine (fparse_alive _).mono ?_; rintro e w1 ⟨rfl, hb1⟩)
  go_ret
  exact ⟨rfl, hb1.alloc hb1.size _⟩

theorem class_adr (s : ByteArray) (j : Nat) (w : World) :
    Calls Try.prog 10 #[.int .i64 (adr s j)] w fun e w' => e = .returned (.tuple #[.int .i64 (classI (adr s j)), .int .i64 0]) ∧ w = w' :=
  class_yes _ w (adr_bd s j).1 (adr_bd s j).2

theorem fparse_good (r : ByteArray) (w : World) (hr : r.size ≤ maxLen) (h : pE r = 0) :
    Calls Try.prog 26 #[.string r] w fun e w' => e = .returned (.tuple #[fv (adr r 0) (adr r 6) (typ r) (dat r), .int .i64 0]) ∧ Below w.heap.size w w' :=
  (fparse_any r w hr).mono fun e w' ⟨h1, h2⟩ => ⟨by rw [h1, pTup_good r h], h2⟩
theorem fparse_bad (r : ByteArray) (n : Int) (w : World) (hr : r.size ≤ maxLen) (h : pE r = n) (hn : n ≠ 0) :
    Calls Try.prog 26 #[.string r] w fun e w' => e = .returned (.tuple #[fv 0 0 0 ⟨#[]⟩, .int .i64 n]) ∧ Below w.heap.size w w' :=
  (fparse_any r w hr).mono fun e w' ⟨h1, h2⟩ => ⟨by rw [h1, pTup_bad r n h hn], h2⟩

set_option maxHeartbeats 400000 in
theorem kind_good (r : ByteArray) (w : World) (hr : r.size ≤ maxLen) (h : pE r = 0) :
    Calls Try.prog 27 #[.string r] w fun e w' => e = .returned (.tuple #[.int .i64 (classI (adr r 0)), .int .i64 0]) ∧ Below w.heap.size w w' := by
  have H := Lib.hid h
  have HR := Lib.hid hr
  clear h hr
  go_enter Try.func27, Try.ntmps27
  go_wp2_with (first | (go_at_call 26; refine (fparse_good _ _ HR.out H.out).mono ?_; rintro e w1 ⟨rfl, hb1⟩) | (go_at_call 10; refine (class_adr _ _ _).mono ?_; rintro e w' ⟨rfl, rfl⟩))
  go_ret2
  exact ⟨rfl, hb1.alloc hb1.size _⟩
set_option maxHeartbeats 400000 in
theorem kind_bad (r : ByteArray) (n : Int) (w : World) (hr : r.size ≤ maxLen) (h : pE r = n) (hn : n ≠ 0) :
    Calls Try.prog 27 #[.string r] w fun e w' => e = .returned (.tuple #[.int .i64 0, .int .i64 n]) ∧ Below w.heap.size w w' := by
  have H := Lib.hid h
  have HR := Lib.hid hr
  have HN := Lib.hid hn
  have hn' : (n != 0) = true := by simpa using hn
  clear h hr hn
  go_enter Try.func27, Try.ntmps27
  go_wp2_with (go_at_call 26; refine (fparse_bad _ n _ HR.out H.out HN.out).mono ?_; rintro e w1 ⟨rfl, hb1⟩)
  go_ret2
  exact ⟨rfl, hb1.alloc hb1.size _⟩

theorem fprint_back (r : ByteArray) (w : World) (h : pE r = 0) :
    Calls Try.prog 24 #[fv (adr r 0) (adr r 6) (typ r) (dat r)] w fun e w' => e = .returned (.tuple #[.string r, .int .i64 0]) ∧ Below w.heap.size w w' :=
  (fprint_yes _ _ _ _ w (parse_ok r h)).mono fun e w' ⟨h1, h2⟩ => ⟨by rw [h1, print_parse r h], h2⟩
theorem class_src (r : ByteArray) (w : World) (h : pE r = 0) :
    Calls Try.prog 10 #[.int .i64 (adr r 6)] w fun e w' => e = .returned (.tuple #[.int .i64 0, .int .i64 0]) ∧ w = w' :=
  (class_adr r 6 w).mono fun e w' ⟨h1, h2⟩ => ⟨by
    have := (pE_zero r h).2.2
    unfold srcB at this
    simp only [Bool.and_eq_true, beq_iff_eq] at this
    rw [h1, this.2], h2⟩
theorem fright_back (r : ByteArray) (w : World) (h : pE r = 0) :
    Calls Try.prog 29 #[fv (adr r 0) (adr r 6) (typ r) (dat r)] w fun e w' => e = .returned (.bool true) ∧ Below w.heap.size w w' := by
  have ho := parse_ok r h
  exact fright_is _ _ _ _ true ho w (by have := (okB_yes ho).2.2.2.2; unfold maxLen; omega)
theorem fparse_print (d s t : Int) (x : ByteArray) (w : World) (h : okB d s t x = true) :
    Calls Try.prog 26 #[.string (pBytes d s t x)] w fun e w' => e = .returned (.tuple #[fv d s t x, .int .i64 0]) ∧ Below w.heap.size w w' :=
  (fparse_any _ w (by have := (okB_yes h).2.2.2.2; rw [pBytes_size]; unfold maxLen; omega)).mono fun e w' ⟨h1, h2⟩ => ⟨by rw [h1, parse_print d s t x h], h2⟩
end Go.Proofs.Ytjmmdlnhallkpaa.MacP
