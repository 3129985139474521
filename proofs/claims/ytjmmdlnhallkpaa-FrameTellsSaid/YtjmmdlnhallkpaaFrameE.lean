/-
  Contracts of frame.Parse and frame.Kind.
-/
import Derived.Test.YtjmmdlnhallkpaaFrameB
import Derived.Test.YtjmmdlnhallkpaaFrameD
namespace Go.Proofs.Ytjmmdlnhallkpaa.MacP
open Go.RowKit
set_option linter.unusedVariables false

/-- A frame's data. -/
def dat (s : ByteArray) : ByteArray := s.extract 14 s.size
/-- What Parse tells: its error, and the frame's parts. -/
def pE (s : ByteArray) : Int := if s.size < 14 then 7 else if 114 < s.size then 8 else if srcB (adr s 6) then 0 else 10
def pD (s : ByteArray) : Int := if pE s = 0 then adr s 0 else 0
def pS (s : ByteArray) : Int := if pE s = 0 then adr s 6 else 0
def pT (s : ByteArray) : Int := if pE s = 0 then typ s else 0
def pX (s : ByteArray) : ByteArray := if pE s = 0 then dat s else ⟨#[]⟩
def pTup (s : ByteArray) : Value := .tuple #[fv (pD s) (pS s) (pT s) (pX s), .int .i64 (pE s)]
theorem pTup_bad (s : ByteArray) (n : Int) (h : pE s = n) (hn : n ≠ 0) : pTup s = .tuple #[fv 0 0 0 ⟨#[]⟩, .int .i64 n] := by
  subst h; simp only [pTup, pD, pS, pT, pX, if_neg hn]
theorem pTup_good (s : ByteArray) (h : pE s = 0) : pTup s = .tuple #[fv (adr s 0) (adr s 6) (typ s) (dat s), .int .i64 0] := by
  simp only [pTup, pD, pS, pT, pX, h, if_true]

theorem bytes_new (w : World) (s : ByteArray) : Lib.Bytes (Lib.bytesWorld w 5 s) w.heap.size 0 s := fun i hi => by
  rw [Nat.zero_add, Lib.bytesWorld_cell _ _ _ _ hi]
  have h' : i < s.data.toList.length := by simpa using hi
  rw [List.getD_eq_getElem?_getD, List.getElem?_eq_getElem h']
  simp; rfl
theorem bytes_below (w : World) (s : ByteArray) : Below w.heap.size w (Lib.bytesWorld w 5 s) :=
  ⟨rfl, rfl, rfl, by rw [Lib.bytesWorld_size]; omega, fun k hk => Lib.bytesWorld_at_old w _ s k hk⟩

theorem cut_data (s : ByteArray) (b cap : Nat) (w : World) (h : 14 ≤ s.size) (hc : s.size ≤ cap) (hm : cap ≤ maxLen) (hb : Lib.Bytes w b 0 s) :
    Calls Try.prog 44 #[.slice (some ⟨b, 0, none⟩) s.size cap, .int .i64 14, .int .i64 (s.size : Int)] w fun e w' =>
      ∃ v, e = .returned v ∧ (convert 47 9 v).run Try.prog w = .ok (.string (dat s)) w ∧ w = w' := by
  by_cases h1 : s.size = 14
  · have := cut_end b s.size cap s.size w hc hm
    have e14 : ((s.size : Nat) : Int) = 14 := by omega
    rw [e14] at this ⊢
    refine this.mono fun e w' ⟨h2, h3⟩ => ⟨_, h2, ?_, h3⟩
    have hw := Lib.run_convert_window (P := Try.prog) w 47 5 9 Try.underlying47 Try.underlying5 Try.underlying9 b 0 s hb 0 0 0 (by omega)
    rw [Nat.zero_add] at hw
    rw [hw, dat]
    congr 2
    apply ByteArray.ext; apply Array.toList_inj.1
    simp; omega
  · refine (cut_at b s.size cap 14 s.size w (by omega) hc hm).mono fun e w' ⟨h2, h3⟩ => ⟨_, h2, ?_, h3⟩
    have hw := Lib.run_convert_window (P := Try.prog) w 47 5 9 Try.underlying47 Try.underlying5 Try.underlying9 b 0 s hb 14 (s.size - 14) (s.size - 14) (by omega)
    rw [Nat.zero_add, show 14 + (s.size - 14) = s.size by omega] at hw
    exact hw
theorem cut_06 (b n cap : Nat) (w : World) (hc : 14 ≤ cap) (hm : cap ≤ maxLen) :
    Calls Try.prog 44 #[.slice (some ⟨b, 0, none⟩) n cap, .int .i64 0, .int .i64 6] w fun e w' => e = .returned (.slice (some ⟨b, 0, none⟩) 6 6) ∧ w = w' :=
  cut_at b n cap 0 6 w (by omega) (by omega) hm
theorem cut_612 (b n cap : Nat) (w : World) (hc : 14 ≤ cap) (hm : cap ≤ maxLen) :
    Calls Try.prog 44 #[.slice (some ⟨b, 0, none⟩) n cap, .int .i64 6, .int .i64 12] w fun e w' => e = .returned (.slice (some ⟨b, 6, none⟩) 6 6) ∧ w = w' :=
  cut_at b n cap 6 12 w (by omega) (by omega) hm
theorem cut_1214 (b n cap : Nat) (w : World) (hc : 14 ≤ cap) (hm : cap ≤ maxLen) :
    Calls Try.prog 44 #[.slice (some ⟨b, 0, none⟩) n cap, .int .i64 12, .int .i64 14] w fun e w' => e = .returned (.slice (some ⟨b, 12, none⟩) 2 2) ∧ w = w' :=
  cut_at b n cap 12 14 w (by omega) (by omega) hm
theorem bytes_on {w w' : World} {B b : Nat} {s : ByteArray} (h : Below B w w') (hb : b < B) (k : Lib.Bytes w b 0 s) : Lib.Bytes w' b 0 s := fun i hi => by
  rw [h.cell (p := ⟨b, 0 + i, none⟩) hb]; exact k i hi
theorem flen_is (s : ByteArray) (n : Int) (h : (if s.size < 14 then (7 : Int) else if 114 < s.size then 8 else 0) = n) (w : World) (hs : s.size ≤ maxLen) :
    Calls Try.prog 42 #[.string s] w fun e w' => e = .returned (.int .i64 n) ∧ w = w' := by
  subst h; exact flen_any s w hs

set_option maxHeartbeats 400000 in
theorem fparse_len (s : ByteArray) (n : Int) (hn : n ≠ 0) (h : (if s.size < 14 then (7 : Int) else if 114 < s.size then 8 else 0) = n) (w : World) (hs : s.size ≤ maxLen) :
    Calls Try.prog 26 #[.string s] w fun e w' => e = .returned (.tuple #[fv 0 0 0 ⟨#[]⟩, .int .i64 n]) ∧ Below w.heap.size w w' := by
  have H := Lib.hid h
  have HS := Lib.hid hs
  have hn' : (n != 0) = true := by simpa using hn
  clear h hn hs
  go_enter Try.func26, Try.ntmps26
  go_wp2_with (go_at_call 42; refine (flen_is _ n H.out _ HS.out).mono ?_; rintro e w' ⟨rfl, rfl⟩)
  refine bodyPost_ret (v := .tuple #[fv 0 0 0 ⟨#[]⟩, .int .i64 n]) (by simp [results, Try.results26, go_sem]) rfl ⟨rfl, ?_⟩
  repeat (first | exact Below.refl _ _ | refine Below.setCell ?_ (by simp) _ | refine Below.alloc ?_ (by simp) _)

set_option maxRecDepth 100000 in
set_option maxHeartbeats 2000000 in
theorem fparse_mid (s : ByteArray) (w : World) (h0 : 14 ≤ s.size) (h1 : s.size ≤ 114) :
    Calls Try.prog 26 #[.string s] w fun e w' => e = .returned (pTup s) ∧ Below w.heap.size w w' := by
  have hms : s.size ≤ maxLen := by unfold maxLen; omega
  have HS := Lib.hid hms
  have HL : Hid ((if s.size < 14 then (7 : Int) else if 114 < s.size then 8 else 0) = 0) := Lib.hid (by rw [if_neg (by omega), if_neg (by omega)])
  have hcv := fun (W : World) => Lib.run_convert_string_bytes (P := Try.prog) W 9 47 5 s Try.underlying9 Try.underlying47 Try.underlying5
  have hB := bytes_new (w.alloc (.cells #[.int .i64 0, .int .i64 0, .int .i64 0, .string ⟨#[]⟩] 38)) s
  have hBB := bytes_below (w.alloc (.cells #[.int .i64 0, .int .i64 0, .int .i64 0, .string ⟨#[]⟩] 38)) s
  have hz1 := Lib.bytesWorld_size (w.alloc (.cells #[.int .i64 0, .int .i64 0, .int .i64 0, .string ⟨#[]⟩] 38)) 5 s
  have hge := grownCap_ge (w.alloc (.cells #[.int .i64 0, .int .i64 0, .int .i64 0, .string ⟨#[]⟩] 38)) s.size 0 5
  have hle := grownCap_le_maxLen (w.alloc (.cells #[.int .i64 0, .int .i64 0, .int .i64 0, .string ⟨#[]⟩] 38)) s.size 0 5 hms
  have z1 : w.heap.size + 1 < (Lib.bytesWorld (w.alloc (.cells #[.int .i64 0, .int .i64 0, .int .i64 0, .string ⟨#[]⟩] 38)) 5 s).heap.size := by rw [hz1]; simp
  obtain ⟨k1, k2⟩ := bcell hBB
  have c0 := k1 w.heap.size 0 (by simp)
  have c1 := k1 w.heap.size 1 (by simp)
  have c2 := k1 w.heap.size 2 (by simp)
  have c3 := k1 w.heap.size 3 (by simp)
  have f0 := k2 w.heap.size 0 (by simp)
  have f1 := k2 w.heap.size 1 (by simp)
  have f2 := k2 w.heap.size 2 (by simp)
  have f3 := k2 w.heap.size 3 (by simp)
  have hb0 : Below w.heap.size w (Lib.bytesWorld (w.alloc (.cells #[.int .i64 0, .int .i64 0, .int .i64 0, .string ⟨#[]⟩] 38)) 5 s) :=
    Below.trans ((Below.refl _ _).alloc (Nat.le_refl _) _) (hBB.mono (by simp))
  clear hz1 k1 k2 hBB
  have e0 : (w.alloc (.cells #[.int .i64 0, .int .i64 0, .int .i64 0, .string ⟨#[]⟩] 38)).heap.size = w.heap.size + 1 := by simp
  rw [e0] at hB
  clear e0
  go_enter Try.func26, Try.ntmps26
  go_wp2_with (go_at_call 42; refine (flen_is _ 0 HL.out _ HS.out).mono ?_; rintro e w' ⟨rfl, rfl⟩)
  clear hcv
  generalize Lib.bytesWorld (w.alloc (.cells #[.int .i64 0, .int .i64 0, .int .i64 0, .string ⟨#[]⟩] 38)) 5 s = W1 at *
  generalize grownCap (w.alloc (.cells #[.int .i64 0, .int .i64 0, .int .i64 0, .string ⟨#[]⟩] 38)) s.size 0 5 = cap at *
  have hcap : 14 ≤ cap := by omega
  have z1' : w.heap.size < W1.heap.size := by omega
  have Z1 := Lib.hid z1
  clear z1
  have HB := Lib.hid hB
  have HLE := Lib.hid hle
  clear hB hle hms
  cases hsr : srcB (adr s 6)
  · have HR := Lib.hid hsr
    have hp : Hid (pTup s = .tuple #[fv 0 0 0 ⟨#[]⟩, .int .i64 10]) := Lib.hid (pTup_bad s 10 (by rw [pE, if_neg (by omega), if_neg (by omega), hsr]; rfl) (by decide))
    clear hsr
    go_wp2_with (first
      | (go_at_call 44; (with_reducible refine (cut_06 _ _ _ _ hcap HLE.out).mono ?_); rintro e w' ⟨rfl, rfl⟩)
      | (go_at_call 44; (with_reducible refine (cut_612 _ _ _ _ hcap HLE.out).mono ?_); rintro e w' ⟨rfl, rfl⟩)
      | (go_at_call 44; (with_reducible refine (cut_1214 _ _ _ _ hcap HLE.out).mono ?_); rintro e w' ⟨rfl, rfl⟩)
      | (go_at_call 44; (with_reducible refine (cut_data s _ _ _ h0 hge HLE.out HB2.out).mono ?_); rintro e w' ⟨v, rfl, ho, rfl⟩)
      | (go_at_call 43; (with_reducible refine (addressOf_at s _ _ _ _ (by omega) HB.out).mono ?_); rintro e w' ⟨rfl, rfl⟩)
      | (go_at_call 45; (with_reducible refine (typeOf_at s _ _ _ h0 HB.out).mono ?_); rintro e w2 ⟨rfl, hb2⟩; have HB2 := Lib.hid (bytes_on hb2 Z1.out HB.out); have z2 := Nat.lt_of_lt_of_le z1' hb2.size; have hb3 := hb0.trans (hb2.mono (Nat.le_of_lt z1')); obtain ⟨m1, m2⟩ := bcell hb2; have d0 := m1 w.heap.size 0 z1'; have d1 := m1 w.heap.size 1 z1'; have d2 := m1 w.heap.size 2 z1'; have d3 := m1 w.heap.size 3 z1'; have g0 := m2 w.heap.size 0 z1'; have g1 := m2 w.heap.size 1 z1'; have g2 := m2 w.heap.size 2 z1'; have g3 := m2 w.heap.size 3 z1'; clear m1 m2 z1')
      | (go_at_call 46; (with_reducible refine (isSource_is _ _ HR.out _).mono ?_); rintro e w' ⟨rfl, rfl⟩))
    refine bodyPost_ret (v := .tuple #[fv 0 0 0 ⟨#[]⟩, .int .i64 10]) (by simp [results, Try.results26, go_sem, z2, d0, d1, d2, d3, c0, c1, c2, c3]) rfl ⟨by rw [hp.out], ?_⟩
    repeat (first | exact hb3 | refine Below.setCell ?_ (by simp) _ | refine Below.alloc ?_ (by simp; try omega) _)
  · have HR := Lib.hid hsr
    have hp : Hid (pTup s = .tuple #[fv (adr s 0) (adr s 6) (typ s) (dat s), .int .i64 0]) := Lib.hid (pTup_good s (by rw [pE, if_neg (by omega), if_neg (by omega), hsr]; rfl))
    clear hsr
    go_wp2_with (first
      | (go_at_call 44; (with_reducible refine (cut_06 _ _ _ _ hcap HLE.out).mono ?_); rintro e w' ⟨rfl, rfl⟩)
      | (go_at_call 44; (with_reducible refine (cut_612 _ _ _ _ hcap HLE.out).mono ?_); rintro e w' ⟨rfl, rfl⟩)
      | (go_at_call 44; (with_reducible refine (cut_1214 _ _ _ _ hcap HLE.out).mono ?_); rintro e w' ⟨rfl, rfl⟩)
      | (go_at_call 44; (with_reducible refine (cut_data s _ _ _ h0 hge HLE.out HB2.out).mono ?_); rintro e w' ⟨v, rfl, ho, rfl⟩)
      | (go_at_call 43; (with_reducible refine (addressOf_at s _ _ _ _ (by omega) HB.out).mono ?_); rintro e w' ⟨rfl, rfl⟩)
      | (go_at_call 45; (with_reducible refine (typeOf_at s _ _ _ h0 HB.out).mono ?_); rintro e w2 ⟨rfl, hb2⟩; have HB2 := Lib.hid (bytes_on hb2 Z1.out HB.out); have z2 := Nat.lt_of_lt_of_le z1' hb2.size; have hb3 := hb0.trans (hb2.mono (Nat.le_of_lt z1')); obtain ⟨m1, m2⟩ := bcell hb2; have d0 := m1 w.heap.size 0 z1'; have d1 := m1 w.heap.size 1 z1'; have d2 := m1 w.heap.size 2 z1'; have d3 := m1 w.heap.size 3 z1'; have g0 := m2 w.heap.size 0 z1'; have g1 := m2 w.heap.size 1 z1'; have g2 := m2 w.heap.size 2 z1'; have g3 := m2 w.heap.size 3 z1'; clear m1 m2 z1')
      | (go_at_call 46; (with_reducible refine (isSource_is _ _ HR.out _).mono ?_); rintro e w' ⟨rfl, rfl⟩))
    refine bodyPost_ret (v := .tuple #[fv (adr s 0) (adr s 6) (typ s) (dat s), .int .i64 0]) (by simp [results, Try.results26, go_sem, z2, d0, d1, d2, d3, c0, c1, c2, c3]) rfl ⟨by rw [hp.out], ?_⟩
    repeat (first | exact hb3 | refine Below.setCell ?_ (by simp) _ | refine Below.alloc ?_ (by simp; try omega) _)

theorem fparse_any (s : ByteArray) (w : World) (hs : s.size ≤ maxLen) :
    Calls Try.prog 26 #[.string s] w fun e w' => e = .returned (pTup s) ∧ Below w.heap.size w w' := by
  by_cases h0 : s.size < 14
  · exact (fparse_len s 7 (by decide) (by rw [if_pos h0]) w hs).mono fun e w' ⟨h1, h2⟩ => ⟨by rw [h1, pTup_bad s 7 (by rw [pE, if_pos h0]) (by decide)], h2⟩
  · by_cases h1 : 114 < s.size
    · exact (fparse_len s 8 (by decide) (by rw [if_neg h0, if_pos h1]) w hs).mono fun e w' ⟨h2, h3⟩ => ⟨by rw [h2, pTup_bad s 8 (by rw [pE, if_neg h0, if_pos h1]) (by decide)], h3⟩
    · exact fparse_mid s w (by omega) (by omega)
end Go.Proofs.Ytjmmdlnhallkpaa.MacP
