/-
  Contracts of mac.Of, mac.digitValue and mac.Parse.
-/
import Derived.Test.YtjmmdlnhallkpaaMacA
import Derived.Laws.RangeAny
import Derived.IntWalk
namespace Go.Proofs.Ytjmmdlnhallkpaa.MacP
open Go.RowKit
set_option linter.unusedVariables false

/-! ### plain numbers -/
def pv (c : Int) : Int := if 48 ≤ c ∧ c ≤ 57 then c - 48 else if 97 ≤ c ∧ c ≤ 102 then c - 97 + 10 else -1
theorem pv_bd (c : Int) : -1 ≤ pv c ∧ pv c < 16 := by
  unfold pv; split
  · omega
  · split <;> omega
theorem pv_high (c : Int) (h : 128 ≤ c) : pv c = -1 := by unfold pv; rw [if_neg (by omega), if_neg (by omega)]
theorem pv_ne (c : Int) (h : pv c < 0) : pv c = -1 := by have := pv_bd c; omega
theorem pv_58 : pv 58 = -1 := by decide
def pStep (i : Nat) (c acc : Int) : Option Int := if i % 3 = 2 then (if c = 58 then some acc else none) else (if pv c < 0 then none else some (16 * acc + pv c))
def pFrom (f : Nat → Int) : Nat → Nat → Int → Option Int
  | 0, _, acc => some acc
  | n + 1, i, acc => match pStep i (f i) acc with
    | none => none
    | some b => pFrom f n (i + 1) b
def gb (s : ByteArray) (i : Nat) : Int := (s.data.toList.getD i 0).toNat
/-- What Parse tells: the address, and the error's number. -/
def pr (s : ByteArray) : Int × Int := if s.size < 17 then (0, 7) else if 17 < s.size then (0, 8) else match pFrom (gb s) 17 0 0 with | none => (0, 9) | some v => (v, 0)
theorem pr_none (s : ByteArray) (hs : s.size = 17) (h : pFrom (gb s) 17 0 0 = none) : pr s = (0, 9) := by unfold pr; rw [if_neg (by omega), if_neg (by omega), h]
theorem pr_some (s : ByteArray) (hs : s.size = 17) (v : Int) (h : pFrom (gb s) 17 0 0 = some v) : pr s = (v, 0) := by unfold pr; rw [if_neg (by omega), if_neg (by omega), h]
def bnd (i : Nat) : Int := 16 ^ (i - i / 3)
theorem bnd_step (i : Nat) (h : i < 17) : (i % 3 = 2 → bnd (i + 1) = bnd i) ∧ (i % 3 ≠ 2 → bnd (i + 1) = 16 * bnd i) := by
  obtain h | h | h | h | h | h | h | h | h | h | h | h | h | h | h | h | h : i = 0 ∨ i = 1 ∨ i = 2 ∨ i = 3 ∨ i = 4 ∨ i = 5 ∨ i = 6 ∨ i = 7 ∨ i = 8 ∨ i = 9 ∨ i = 10 ∨ i = 11 ∨ i = 12 ∨ i = 13 ∨ i = 14 ∨ i = 15 ∨ i = 16 := by omega
  all_goals (subst h; decide)
theorem bnd_le (i : Nat) (h : i ≤ 17) : bnd i ≤ 281474976710656 := by
  obtain h | h | h | h | h | h | h | h | h | h | h | h | h | h | h | h | h | h : i = 0 ∨ i = 1 ∨ i = 2 ∨ i = 3 ∨ i = 4 ∨ i = 5 ∨ i = 6 ∨ i = 7 ∨ i = 8 ∨ i = 9 ∨ i = 10 ∨ i = 11 ∨ i = 12 ∨ i = 13 ∨ i = 14 ∨ i = 15 ∨ i = 16 ∨ i = 17 := by omega
  all_goals (subst h; decide)
theorem bits_or_i64_nat (a b : Nat) (ha : a < 9223372036854775808) (hb : b < 9223372036854775808) : bits .or .i64 (a : Int) (b : Int) = ((a ||| b : Nat) : Int) := by
  have hx : a ||| b < 2 ^ 63 := Nat.or_lt_two_pow (by omega) (by omega)
  have h1 : (BitVec.ofInt 64 (a : Int)).toNat = a := by
    rw [BitVec.ofInt_natCast, BitVec.toNat_ofNat]; exact Nat.mod_eq_of_lt (by omega)
  have h2 : (BitVec.ofInt 64 (b : Int)).toNat = b := by
    rw [BitVec.ofInt_natCast, BitVec.toNat_ofNat]; exact Nat.mod_eq_of_lt (by omega)
  show IntKind.i64.wrap ((BitVec.ofInt 64 (a : Int) ||| BitVec.ofInt 64 (b : Int)).toNat : Int) = _
  rw [BitVec.toNat_or, h1, h2, IntKind.wrap_i64]
  omega
/-- x shifted by k bits, and y in these bits. -/
theorem or_add (x y : Int) (k : Nat) (hx : 0 ≤ x) (hy : 0 ≤ y) (hk : y < 2 ^ k) (hb : x * 2 ^ k < 9223372036854775808) (hyb : y < 9223372036854775808) : bits .or .i64 (x * 2 ^ k) y = x * 2 ^ k + y := by
  obtain ⟨a, rfl⟩ := Int.eq_ofNat_of_zero_le hx
  obtain ⟨b, rfl⟩ := Int.eq_ofNat_of_zero_le hy
  have e : ((a : Int) * 2 ^ k) = ((a * 2 ^ k : Nat) : Int) := by push_cast; rfl
  have hk' : b < 2 ^ k := by have : ((b : Nat) : Int) < ((2 ^ k : Nat) : Int) := by push_cast; exact hk
                             omega
  rw [e] at hb ⊢
  rw [bits_or_i64_nat _ _ (by omega) (by omega)]
  rw [← Nat.shiftLeft_eq, Nat.shiftLeft_add_eq_or_of_lt hk' a |>.symm]
  push_cast; rfl
theorem or_16 (x y : Int) (hx : 0 ≤ x) (hy : 0 ≤ y) (hk : y < 16) (hb : x < 281474976710656) : bits .or .i64 (x * 16) y = 16 * x + y := by
  have := or_add x y 4 hx hy (by omega) (by omega) (by omega)
  simp only [show (2 : Int) ^ 4 = 16 from rfl] at this
  rw [this]; omega
theorem or_256 (x y : Int) (hx : 0 ≤ x) (hy : 0 ≤ y) (hk : y < 256) (hb : x < 281474976710656) : bits .or .i64 (x * 256) y = 256 * x + y := by
  have := or_add x y 8 hx hy (by omega) (by omega) (by omega)
  simp only [show (2 : Int) ^ 8 = 256 from rfl] at this
  rw [this]; omega

set_option maxHeartbeats 400000 in
theorem digit_any (c : Int) (w : World) (h0 : 0 ≤ c) (h1 : c ≤ 2147483647) :
    Calls Try.prog 38 #[.int .i32 c] w fun e w' => e = .returned (.int .i64 (pv c)) ∧ w = w' := by
  unfold pv
  by_cases a : 48 ≤ c
  · by_cases b : c ≤ 57
    · rw [if_pos ⟨a, b⟩]
      go_enter Try.func38, Try.ntmps38
      go_wp2
      go_ret
      exact ⟨rfl, rfl⟩
    · rw [if_neg (by omega)]
      have b' : decide (c ≤ 57) = false := by simpa using b
      by_cases d : 97 ≤ c
      · by_cases g : c ≤ 102
        · rw [if_pos ⟨d, g⟩]
          go_enter Try.func38, Try.ntmps38
          go_wp2
          go_ret
          exact ⟨rfl, rfl⟩
        · rw [if_neg (by omega)]
          have g' : decide (c ≤ 102) = false := by simpa using g
          go_enter Try.func38, Try.ntmps38
          go_wp2
          go_ret
          exact ⟨rfl, rfl⟩
      · rw [if_neg (by omega)]
        have d' : decide (97 ≤ c) = false := by simpa using d
        go_enter Try.func38, Try.ntmps38
        go_wp2
        go_ret
        exact ⟨rfl, rfl⟩
  · rw [if_neg (by omega), if_neg (by omega)]
    have a' : decide (48 ≤ c) = false := by simpa using a
    have d' : decide (97 ≤ c) = false := by simp; omega
    go_enter Try.func38, Try.ntmps38
    go_wp2
    go_ret
    exact ⟨rfl, rfl⟩

theorem get_gb (s : ByteArray) (i : Nat) (h : i < s.size) : ((s[i]'h).toNat : Int) = gb s i := by
  have h' : i < s.data.toList.length := by simpa using h
  unfold gb
  rw [List.getD_eq_getElem?_getD, List.getElem?_eq_getElem h']
  simp; rfl
theorem pFrom_cont (f : Nat → Int) (n i : Nat) (acc b : Int) (h : pStep i (f i) acc = some b) : pFrom f (n + 1) i acc = pFrom f n (i + 1) b := by rw [pFrom, h]
theorem pFrom_stop (f : Nat → Int) (n i : Nat) (acc : Int) (h : pStep i (f i) acc = none) : pFrom f (n + 1) i acc = none := by rw [pFrom, h]
theorem pStep_bd (i : Nat) (c acc b : Int) (hi : i < 17) (h0 : 0 ≤ acc) (h1 : acc < bnd i) (h : pStep i c acc = some b) : 0 ≤ b ∧ b < bnd (i + 1) := by
  have hp := pv_bd c
  obtain ⟨k1, k2⟩ := bnd_step i hi
  unfold pStep at h
  split at h
  · split at h
    · cases h; rw [k1 (by assumption)]; exact ⟨h0, h1⟩
    · cases h
  · split at h
    · cases h
    · cases h; rw [k2 (by assumption)]; omega

/-- What a round of Parse does at place i: the character is one byte, or else none that is right. -/
structure Rune (s : ByteArray) (i : Nat) (r : Int) (wd : Nat) : Prop where
  low : 0 ≤ r
  up : r ≤ 2147483647
  pos : 1 ≤ wd
  one : gb s i < 128 → r = gb s i ∧ wd = 1
  high : 128 ≤ gb s i → 128 ≤ r
theorem rune_of (s : ByteArray) (i : Nat) (h : i < s.size) : Rune s i (Utf8.decode s i).1 (Utf8.decode s i).2 := by
  have hg := get_gb s i h
  have hl := decode_le s i
  by_cases ha : (s[i]'h).toNat < 128
  · rw [decode_ascii s i h ha] at hl ⊢
    exact ⟨by simp, by simpa using (Int.ofNat_le.2 hl), Nat.le_refl _, fun _ => ⟨hg, rfl⟩, fun hh => by omega⟩
  · obtain ⟨k1, k2⟩ := decode_high s i h (by omega)
    exact ⟨by omega, by omega, k2, fun hh => by omega, fun _ => by omega⟩

def PR (s : ByteArray) (n : Nat) (w : World) (e : Ending) (w' : World) : Prop := e = .returned (.tuple #[.int .i64 (pr s).1, .int .i64 (pr s).2]) ∧ Below n w w'

set_option maxHeartbeats 1000000 in
theorem parse_17 (s : ByteArray) (w : World) (hs : s.size = 17) :
    Calls Try.prog 20 #[.string s] w (PR s w.heap.size w) := by
  have hpr : Hid (pr s = match pFrom (gb s) 17 0 0 with | none => (0, 9) | some v => (v, 0)) := by
    refine Lib.hid ?_
    unfold pr; rw [if_neg (by omega), if_neg (by omega)]
  have HS := Lib.hid hs
  have hs1 : s.size ≤ maxLen := by unfold maxLen; omega
  clear hs
  go_enter Try.func20, Try.ntmps20
  go_wp2_with (go_at_call 37; refine (len_any _ _ _ hs1).mono ?_; rw [HS.out]; rintro e w' ⟨rfl, rfl⟩)
  go_loopw [5] (fun t wr => ∃ (pos : Nat) (acc : Int), pos ≤ 17 ∧ 0 ≤ acc ∧ acc < bnd pos ∧ wr = w.iter s pos ∧ t = .int .i64 acc ∧ pFrom (gb s) (17 - pos) pos acc = pFrom (gb s) 17 0 0)
    (fun _ wr => 17 - wr.iterPos w.heap.size)
  case atStart => exact ⟨0, 0, by omega, by omega, by decide, rfl, rfl, rfl⟩
  case round =>
    obtain ⟨pos, acc, hp, ha0, ha1, rfl, rfl, hf⟩ := hrel
    have HF := Lib.hid hf
    clear hf
    by_cases hlt : pos < 17
    · have hsz : pos < s.size := by rw [HS.out]; exact hlt
      have R := rune_of s pos hsz
      have hnx : ∀ ty, (Instr.next (.pointer (some ⟨w.heap.size, 0, none⟩)) true ty).run Try.prog (w.iter s pos) = _ := fun ty => run_next_any w s pos ty hsz
      have hbl := bnd_le pos (by omega)
      generalize (Utf8.decode s pos).1 = r0 at hnx R
      generalize (Utf8.decode s pos).2 = wd at hnx R
      obtain ⟨r, hr⟩ : ∃ r : Int, r = (r0 : Int) := ⟨_, rfl⟩
      rw [← hr] at R
      simp only [← hr] at hnx
      clear hr
      by_cases hm : pos % 3 = 2
      · have hm1 : (((pos : Int) % 3) == 2) = true := by simp; omega
        by_cases hc : gb s pos = 58
        · obtain ⟨rfl, rfl⟩ := R.one (by omega)
          have hst : Hid (pFrom (gb s) (17 - (pos + 1)) (pos + 1) acc = pFrom (gb s) 17 0 0) := by
            refine Lib.hid ?_
            rw [← HF.out, show 17 - pos = (17 - (pos + 1)) + 1 by omega, pFrom_cont (b := acc) _ _ _ _ (by rw [pStep, if_pos hm, if_pos hc])]
          have hr58 : (gb s pos != 58) = false := by rw [hc]; rfl
          have hb1 : acc < bnd (pos + 1) := by rw [(bnd_step pos hlt).1 hm]; exact ha1
          clear R hc HF
          go_wp2
          go_roundw
          case rel => exact ⟨pos + 1, acc, by omega, ha0, hb1, rfl, rfl, hst.out⟩
          case measure => simp; omega
        · have hst : Hid (pFrom (gb s) 17 0 0 = none) := by
            refine Lib.hid ?_
            rw [← HF.out, show 17 - pos = (16 - pos) + 1 by omega, pFrom_stop _ _ _ _ (by rw [pStep, if_pos hm, if_neg hc])]
          have hr58 : (r != 58) = true := by
            simp only [bne_iff_ne]
            rcases Int.lt_or_le (gb s pos) 128 with h | h
            · have := (R.one h).1; omega
            · have := R.high h; omega
          clear R hc
          go_wp2
          go_ret2
          refine ⟨?_, (Below.refl _ _).alloc (Nat.le_refl _) _⟩
          rw [hpr.out, hst.out]; rfl
      · have hm1 : (((pos : Int) % 3) == 2) = false := by simp; omega
        have r0' := R.low
        have r1' := R.up
        by_cases hc : pv (gb s pos) < 0
        · have hst : Hid (pFrom (gb s) 17 0 0 = none) := by
            refine Lib.hid ?_
            rw [← HF.out, show 17 - pos = (16 - pos) + 1 by omega, pFrom_stop _ _ _ _ (by rw [pStep, if_neg hm, if_pos hc])]
          have hpv : Hid (pv r = -1) := by
            refine Lib.hid ?_
            rcases Int.lt_or_le (gb s pos) 128 with h | h
            · rw [(R.one h).1]; exact pv_ne _ hc
            · exact pv_high _ (R.high h)
          clear R hc
          go_wp2_with (go_at_call 38; refine (digit_any _ _ r0' r1').mono ?_; rw [hpv.out]; rintro e w' ⟨rfl, rfl⟩)
          go_ret2
          refine ⟨?_, (Below.refl _ _).alloc (Nat.le_refl _) _⟩
          rw [hpr.out, hst.out]; rfl
        · have hpb := pv_bd (gb s pos)
          have hg : gb s pos < 128 := by
            rcases Int.lt_or_le (gb s pos) 128 with h | h
            · exact h
            · rw [pv_high _ h] at hc; omega
          obtain ⟨rfl, rfl⟩ := R.one hg
          have hps : pStep pos (gb s pos) acc = some (16 * acc + pv (gb s pos)) := by rw [pStep, if_neg hm, if_neg hc]
          have hst : Hid (pFrom (gb s) (17 - (pos + 1)) (pos + 1) (16 * acc + pv (gb s pos)) = pFrom (gb s) 17 0 0) := by
            refine Lib.hid ?_
            rw [← HF.out, show 17 - pos = (17 - (pos + 1)) + 1 by omega, pFrom_cont _ _ _ _ _ hps]
          obtain ⟨b0, b1⟩ := pStep_bd pos _ acc _ hlt ha0 ha1 hps
          have hne : (pv (gb s pos) == -1) = false := by simp; omega
          have hor := or_16 acc (pv (gb s pos)) ha0 (by omega) (by omega) (by omega)
          have hor' : Hid (bits .or .i64 (acc * 16) (pv (gb s pos)) = 16 * acc + pv (gb s pos)) := Lib.hid hor
          clear R hps hor HF
          go_wp2_with (go_at_call 38; refine (digit_any _ _ r0' r1').mono ?_; rintro e w' ⟨rfl, rfl⟩)
          go_roundw
          case rel => exact ⟨pos + 1, 16 * acc + pv (gb s pos), by omega, b0, b1, rfl, by rw [hor'.out], hst.out⟩
          case measure => simp; omega
    · have hsz : ¬ pos < s.size := by rw [HS.out]; exact hlt
      have hnx : ∀ ty, (Instr.next (.pointer (some ⟨w.heap.size, 0, none⟩)) true ty).run Try.prog (w.iter s pos) = _ := fun ty => run_next_end w s pos ty hsz
      clear hsz
      go_wp2
      go_ret2
      refine ⟨?_, (Below.refl _ _).alloc (Nat.le_refl _) _⟩
      have hp : pos = 17 := by omega
      subst hp
      rw [hpr.out, ← HF.out]; rfl

theorem len_7 (s : ByteArray) (n : Int) (w : World) (hs : s.size ≤ maxLen) (h : (s.size : Int) < n) :
    Calls Try.prog 37 #[.string s, .int .i64 n] w fun e w' => e = .returned (.int .i64 7) ∧ w = w' :=
  (len_any s n w hs).mono fun e w' ⟨h1, h2⟩ => ⟨by rw [h1, if_pos h], h2⟩
theorem len_8 (s : ByteArray) (n : Int) (w : World) (hs : s.size ≤ maxLen) (h : n < s.size) :
    Calls Try.prog 37 #[.string s, .int .i64 n] w fun e w' => e = .returned (.int .i64 8) ∧ w = w' :=
  (len_any s n w hs).mono fun e w' ⟨h1, h2⟩ => ⟨by rw [h1, if_neg (by omega), if_pos h], h2⟩
theorem len_0 (s : ByteArray) (n : Int) (w : World) (hs : s.size ≤ maxLen) (h : n = s.size) :
    Calls Try.prog 37 #[.string s, .int .i64 n] w fun e w' => e = .returned (.int .i64 0) ∧ w = w' :=
  (len_any s n w hs).mono fun e w' ⟨h1, h2⟩ => ⟨by rw [h1, if_neg (by omega), if_neg (by omega)], h2⟩

set_option maxHeartbeats 400000 in
theorem parse_any (s : ByteArray) (w : World) (hs : s.size ≤ maxLen) :
    Calls Try.prog 20 #[.string s] w (PR s w.heap.size w) := by
  by_cases h1 : s.size < 17
  · have hpr : Hid (pr s = (0, 7)) := Lib.hid (by unfold pr; rw [if_pos h1])
    go_enter Try.func20, Try.ntmps20
    go_wp2_with (go_at_call 37; refine (len_7 _ _ _ hs (by omega)).mono ?_; rintro e w' ⟨rfl, rfl⟩)
    go_ret2
    exact ⟨by rw [hpr.out]; rfl, Below.refl _ _⟩
  · by_cases h2 : 17 < s.size
    · have hpr : Hid (pr s = (0, 8)) := Lib.hid (by unfold pr; rw [if_neg h1, if_pos h2])
      go_enter Try.func20, Try.ntmps20
      go_wp2_with (go_at_call 37; refine (len_8 _ _ _ hs (by omega)).mono ?_; rintro e w' ⟨rfl, rfl⟩)
      go_ret2
      exact ⟨by rw [hpr.out]; rfl, Below.refl _ _⟩
    · exact parse_17 s w (by omega)

/-- The number of six bytes, the highest first. -/
def ofTo (f : Nat → Int) : Nat → Int
  | 0 => 0
  | k + 1 => 256 * ofTo f k + f k
theorem gb_bd (s : ByteArray) (i : Nat) : 0 ≤ gb s i ∧ gb s i < 256 := by
  unfold gb
  have := (s.data.toList.getD i 0).toNat_lt
  omega
theorem ofTo_bd (s : ByteArray) (k : Nat) : 0 ≤ ofTo (gb s) k ∧ ofTo (gb s) k < 256 ^ k := by
  induction k with
  | zero => exact ⟨by simp [ofTo], by simp [ofTo]⟩
  | succ k ih =>
    have := gb_bd s k
    rw [ofTo, Int.pow_succ]
    omega
/-- What Of tells. -/
def fr (s : ByteArray) : Int × Int := if s.size < 6 then (0, 7) else if 6 < s.size then (0, 8) else (ofTo (gb s) 6, 0)
theorem pow_le (k : Nat) (h : k < 6) : (256 : Int) ^ k ≤ 1099511627776 := by
  obtain h | h | h | h | h | h : k = 0 ∨ k = 1 ∨ k = 2 ∨ k = 3 ∨ k = 4 ∨ k = 5 := by omega
  all_goals (subst h; decide)

set_option maxHeartbeats 400000 in
theorem of_6 (s : ByteArray) (w : World) (hs : s.size = 6) :
    Calls Try.prog 19 #[.string s] w fun e w' => e = .returned (.tuple #[.int .i64 (fr s).1, .int .i64 (fr s).2]) ∧ w = w' := by
  have hpr : Hid (fr s = (ofTo (gb s) 6, 0)) := Lib.hid (by unfold fr; rw [if_neg (by omega), if_neg (by omega)])
  have HS := Lib.hid hs
  have hs1 : s.size ≤ maxLen := by unfold maxLen; omega
  clear hs
  go_enter Try.func19, Try.ntmps19
  go_wp2_with (go_at_call 37; refine (len_0 _ _ _ hs1 (by rw [HS.out]; rfl)).mono ?_; rintro e w' ⟨rfl, rfl⟩)
  go_loop [5, 14] (fun t i => ∃ k : Nat, k ≤ s.size ∧ i = .int .i64 k ∧ t = .int .i64 (ofTo (gb s) k)) (fun _ i => s.size - (intOf i).toNat)
  case atStart => exact ⟨0, Nat.zero_le _, rfl, rfl⟩
  case round =>
    obtain ⟨k, hk, rfl, rfl⟩ := hrel
    by_cases hlt : k < s.size
    · have hbd := ofTo_bd s k
      have hk6 : k < 6 := by rw [HS.out] at hlt; exact hlt
      have hpl := pow_le k hk6
      have hg := gb_bd s k
      have hgk := Lib.hid (get_gb s k hlt)
      have hor : Hid (bits .or .i64 (ofTo (gb s) k * 256) (gb s k) = ofTo (gb s) (k + 1)) := Lib.hid (or_256 _ _ hbd.1 hg.1 hg.2 (by omega))
      go_wp2
      go_round
      case rel => exact ⟨k + 1, by omega, by go_num, by rw [hgk.out, IntWalk.wrap64_in _ ⟨by omega, by omega⟩, hor.out]⟩
      case measure => simp [intOf]; omega
    · go_wp2
      go_ret2
      have hk6 : k = 6 := by have := HS.out; omega
      subst hk6
      exact ⟨by rw [hpr.out]; rfl, rfl⟩

set_option maxHeartbeats 400000 in
theorem of_any (s : ByteArray) (w : World) (hs : s.size ≤ maxLen) :
    Calls Try.prog 19 #[.string s] w fun e w' => e = .returned (.tuple #[.int .i64 (fr s).1, .int .i64 (fr s).2]) ∧ w = w' := by
  by_cases h1 : s.size < 6
  · have hpr : Hid (fr s = (0, 7)) := Lib.hid (by unfold fr; rw [if_pos h1])
    go_enter Try.func19, Try.ntmps19
    go_wp2_with (go_at_call 37; refine (len_7 _ _ _ hs (by omega)).mono ?_; rintro e w' ⟨rfl, rfl⟩)
    go_ret2
    exact ⟨by rw [hpr.out]; rfl, rfl⟩
  · by_cases h2 : 6 < s.size
    · have hpr : Hid (fr s = (0, 8)) := Lib.hid (by unfold fr; rw [if_neg h1, if_pos h2])
      go_enter Try.func19, Try.ntmps19
      go_wp2_with (go_at_call 37; refine (len_8 _ _ _ hs (by omega)).mono ?_; rintro e w' ⟨rfl, rfl⟩)
      go_ret2
      exact ⟨by rw [hpr.out]; rfl, rfl⟩
    · exact of_6 s w (by omega)
end Go.Proofs.Ytjmmdlnhallkpaa.MacP
