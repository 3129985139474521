/-
  Contracts of frame's cut, addressOf, typeOf, join.
-/
import Derived.Test.YtjmmdlnhallkpaaFrameA
import Derived.Deep.QuietTactic
import Derived.BigQuiet
namespace Go.Proofs.Ytjmmdlnhallkpaa.MacP
open Go.RowKit
set_option linter.unusedVariables false

set_option maxHeartbeats 400000 in
theorem cut_at (b n cap l h : Nat) (w : World) (hl : l < h) (hc : h ≤ cap) (hm : cap ≤ maxLen) :
    Calls Try.prog 44 #[.slice (some ⟨b, 0, none⟩) n cap, .int .i64 (l : Int), .int .i64 (h : Int)] w fun e w' => e = .returned (.slice (some ⟨b, l, none⟩) (h - l) (h - l)) ∧ w = w' := by
  unfold maxLen at hm
  go_enter Try.func44, Try.ntmps44
  go_wp2
  go_ret
  exact ⟨rfl, rfl⟩
set_option maxHeartbeats 400000 in
theorem cut_end (b n cap h : Nat) (w : World) (hc : h ≤ cap) (hm : cap ≤ maxLen) :
    Calls Try.prog 44 #[.slice (some ⟨b, 0, none⟩) n cap, .int .i64 (h : Int), .int .i64 (h : Int)] w fun e w' => e = .returned (.slice (some ⟨b, 0, none⟩) 0 0) ∧ w = w' := by
  unfold maxLen at hm
  go_enter Try.func44, Try.ntmps44
  go_wp2
  go_ret
  exact ⟨rfl, rfl⟩

/-- The number of the six bytes at place j. -/
def adr (s : ByteArray) (j : Nat) : Int := ofTo (gb (s.extract j (j + 6))) 6
theorem fr_6 (s : ByteArray) (h : s.size = 6) : fr s = (ofTo (gb s) 6, 0) := by unfold fr; rw [if_neg (by omega), if_neg (by omega)]
theorem ext_size (s : ByteArray) (j k : Nat) (h : k ≤ s.size) : (s.extract j k).size = k - j := by rw [ByteArray.size_extract]; omega
theorem of_win (s : ByteArray) (j : Nat) (h : j + 6 ≤ s.size) (w : World) :
    Calls Try.prog 19 #[.string (s.extract j (j + 6))] w fun e w' => e = .returned (.tuple #[.int .i64 (adr s j), .int .i64 0]) ∧ w = w' :=
  (of_any (s.extract j (j + 6)) w (by rw [ext_size _ _ _ h]; unfold maxLen; omega)).mono fun e w' ⟨h1, h2⟩ => ⟨by rw [h1, fr_6 _ (by rw [ext_size _ _ _ h]; omega)]; rfl, h2⟩

set_option maxHeartbeats 400000 in
theorem addressOf_at (s : ByteArray) (b j c : Nat) (w : World) (h : j + 6 ≤ s.size) (hb : Lib.Bytes w b 0 s) :
    Calls Try.prog 43 #[.slice (some ⟨b, j, none⟩) 6 c] w fun e w' => e = .returned (.int .i64 (adr s j)) ∧ w = w' := by
  have hc := Lib.run_convert_window (P := Try.prog) w 47 5 9 Try.underlying47 Try.underlying5 Try.underlying9 b 0 s hb j 6 c h
  rw [Nat.zero_add] at hc
  clear hb
  go_enter Try.func43, Try.ntmps43
  go_wp2_with (go_at_call 19; refine (of_win s j h _).mono ?_; rintro e w' ⟨rfl, rfl⟩)
  go_ret
  exact ⟨rfl, rfl⟩

def typ (s : ByteArray) : Int := 256 * gb s 12 + gb s 13
set_option maxHeartbeats 400000 in
theorem typeOf_at (s : ByteArray) (b c : Nat) (w : World) (h : 14 ≤ s.size) (hb : Lib.Bytes w b 0 s) :
    Calls Try.prog 45 #[.slice (some ⟨b, 12, none⟩) 2 c] w fun e w' => e = .returned (.int .i64 (typ s)) ∧ Below w.heap.size w w' := by
  have c0 : w.cell? ⟨b, 12, none⟩ = some (.int .u8 (gb s 12)) := by rw [← get_gb s 12 (by omega)]; simpa using hb 12 (by omega)
  have c1 : w.cell? ⟨b, 13, none⟩ = some (.int .u8 (gb s 13)) := by rw [← get_gb s 13 (by omega)]; simpa using hb 13 (by omega)
  have g0 := gb_bd s 12
  have g1 := gb_bd s 13
  have hor := Lib.hid (or_256 (gb s 12) (gb s 13) g0.1 g1.1 g1.2 (by omega))
  have ht : Hid (typ s = 256 * gb s 12 + gb s 13) := Lib.hid rfl
  generalize gb s 12 = x at *
  generalize gb s 13 = y at *
  clear hb h
  go_enter Try.func45, Try.ntmps45
  go_wp2
  go_quiet (fail)
  go_wp2
  go_ret
  exact ⟨by rw [ht.out, ← hor.out]; rfl, ⟨rfl, rfl, rfl, Nat.le_refl _, fun _ _ => rfl⟩⟩
end Go.Proofs.Ytjmmdlnhallkpaa.MacP
