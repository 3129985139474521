/-
  Contracts of footwayref03's number, sum, read, Source.
-/
import Derived.Test.YtlgfogllkoabpaaQFrameF
import Derived.Deep.RegionWith
import Derived.Lib.QuietBelow
import Derived.BigQuiet
import Derived.Test.YtlgfogllkoabpaaQRegMono
import Derived.Deep.Cut
import Derived.Test.YtlgfogllkoabpaaQFrameA
namespace Go.Proofs.Ytlgfogllkoabpaa.QMacP
open Go.RowKit
set_option linter.unusedVariables false
set_option maxRecDepth 100000

/-- k bytes of a number, the highest first. -/
def numL (n : Int) : Nat → List Int
  | 0 => []
  | k + 1 => numL (n / 256) k ++ [n % 256]
theorem numL_len (n : Int) (k : Nat) : (numL n k).length = k := by
  induction k generalizing n with
  | zero => rfl
  | succ k ih => rw [numL, List.length_append, ih]; rfl
theorem conv_at (W : World) (m : Nat) (n : Int) (h : W.cell? ⟨m, 0, none⟩ = some (.int .u8 n)) : (convert 36 9 (.slice (some ⟨m, 0, none⟩) 1 1)).run TryQ.prog W = .ok (.string (strOfNums [n])) W :=
  run_convert_bytes_arg W 36 5 TryQ.underlying36 TryQ.underlying5 m 0 1 1 [n] rfl (by
    intro i hi
    match i, hi with
    | 0, _ => exact h) 9 TryQ.underlying9

set_option maxRecDepth 100000 in
set_option maxHeartbeats 1000000 in
theorem ref_number (k : Nat) : ∀ (n : Int) (w : World), k ≤ 8 → 0 ≤ n → n ≤ 9223372036854775807 →
    Calls TryQ.prog 28 #[.int .i64 n, .int .i64 (k : Int)] w fun e w' => e = .returned (.string (strOfNums (numL n k))) ∧ Below w.heap.size w w' := by
  induction k with
  | zero =>
    intro n w hk h0 h1
    go_enter TryQ.func28, Try.ntmps28
    go_wp2_with fail
    go_ret
    exact ⟨rfl, Below.refl _ _⟩
  | succ k ih =>
    intro n w hk h0 h1
    have hs : (((k + 1 : Nat) : Int) == 0) = false := by simp; omega
    have v1 : n.tdiv 256 = n / 256 := Int.tdiv_eq_ediv_of_nonneg h0
    have v2 : n.tmod 256 = n % 256 := Int.tmod_eq_emod_of_nonneg h0
    have v3 : IntKind.i64.wrap (n / 256) = n / 256 := IntWalk.i64_in _ (by omega)
    have v4 : IntKind.i64.wrap (n % 256) = n % 256 := IntWalk.i64_in _ (by omega)
    have v6 : IntKind.u8.wrap (n % 256) = n % 256 := wrap_u8 _ (by omega)
    have v7 : IntKind.i64.wrap (((k + 1 : Nat) : Int) - 1) = (k : Int) := by rw [IntWalk.i64_in _ (by omega)]; omega
    have v9 : IntKind.i64.wrap (k : Int) = (k : Int) := IntWalk.i64_in _ (by omega)
    have v8 : ((k + 1 : Nat) : Int) - 1 = (k : Int) := by omega
    have hl := Lib.hid (numL_len (n / 256) k)
    have hnum : Hid (numL n (k + 1) = numL (n / 256) k ++ [n % 256]) := Lib.hid rfl
    have q1 : ∀ w, (Op.stringOp .add (strOfNums (numL (n / 256) k)) (strOfNums [n % 256])).run TryQ.prog w = .ok (.string (strOfNums (numL n (k + 1)))) w := fun w => by
      rw [str_add _ _ w (by rw [hl.out]; simp; omega), hnum.out]
    have q2 := fun W m h => conv_at W m (n % 256) h
    have e0 : 0 ≤ n / 256 := by omega
    have e1 : n / 256 ≤ 9223372036854775807 := by omega
    have e2 : k ≤ 8 := by omega
    clear h0 h1 hk
    go_enter TryQ.func28, Try.ntmps28
    go_wp2_with fail
    go_region_with ((go_at_call 28; (with_reducible refine (ih (n / 256) _ e2 e0 e1).mono ?_); rintro e w2 ⟨rfl, hb2⟩; obtain ⟨hc2, hf2⟩ := bcell hb2))
    all_goals
      go_wp2_with fail
      go_ret
      refine ⟨rfl, ?_⟩
      repeat (first | with_reducible exact Below.refl _ _ | apply Below.drew | refine Below.alloc ?_ (by first | (simp; done) | (have := hb2.size; simp at this; omega)) _ | refine Below.trans ?_ (Below.mono (by assumption) (by first | (simp; done) | (simp; omega))))

/-- The sum of bytes, below 256. -/
def sumTo (f : Nat → Int) : Nat → Int
  | 0 => 0
  | k + 1 => (sumTo f k + f k) % 256
theorem sumTo_bd (f : Nat → Int) (k : Nat) : 0 ≤ sumTo f k ∧ sumTo f k < 256 := by
  cases k with
  | zero => exact ⟨Int.le_refl _, by show (0 : Int) < 256; decide⟩
  | succ k => rw [sumTo]; omega

set_option maxHeartbeats 400000 in
theorem ref_sum (s : ByteArray) (w : World) (hs : s.size ≤ 1000) :
    Calls TryQ.prog 23 #[.string s] w fun e w' => e = .returned (.int .i64 (sumTo (gb s) s.size)) ∧ w = w' := by
  go_enter TryQ.func23, Try.ntmps23
  go_wp2
  go_loop [3, 4] (fun t i => ∃ k : Nat, k ≤ s.size ∧ i = .int .i64 k ∧ t = .int .i64 (sumTo (gb s) k)) (fun _ i => s.size - (intOf i).toNat)
  case atStart => exact ⟨0, Nat.zero_le _, rfl, rfl⟩
  case round =>
    obtain ⟨k, hk, rfl, rfl⟩ := hrel
    by_cases hlt : k < s.size
    · have hbd := sumTo_bd (gb s) k
      have hg := gb_bd s k
      have hix := index_at s k hlt
      have hof : Hid (sumTo (gb s) (k + 1) = (sumTo (gb s) k + gb s k) % 256) := Lib.hid rfl
      generalize sumTo (gb s) k = x at *
      generalize gb s k = y at *
      go_wp2
      go_round
      case rel => exact ⟨k + 1, by omega, by go_num, by rw [hof.out]⟩
      case measure => simp [intOf]; omega
    · go_wp2
      go_ret
      have hk6 : k = s.size := by omega
      subst hk6
      exact ⟨rfl, rfl⟩

set_option maxHeartbeats 400000 in
theorem ref_read (s : ByteArray) (w : World) (hs : s.size ≤ 6) :
    Calls TryQ.prog 24 #[.string s] w fun e w' => e = .returned (.int .i64 (ofTo (gb s) s.size)) ∧ w = w' := by
  go_enter TryQ.func24, Try.ntmps24
  go_wp2
  go_loop [3, 4] (fun t i => ∃ k : Nat, k ≤ s.size ∧ i = .int .i64 k ∧ t = .int .i64 (ofTo (gb s) k)) (fun _ i => s.size - (intOf i).toNat)
  case atStart => exact ⟨0, Nat.zero_le _, rfl, rfl⟩
  case round =>
    obtain ⟨k, hk, rfl, rfl⟩ := hrel
    by_cases hlt : k < s.size
    · have hbd := ofTo_bd s k
      have hk6 : k < 6 := by omega
      have hpl := pow_le k hk6
      have hg := gb_bd s k
      have hix := index_at s k hlt
      have hof : Hid (ofTo (gb s) (k + 1) = 256 * ofTo (gb s) k + gb s k) := Lib.hid rfl
      generalize ofTo (gb s) k = x at *
      generalize gb s k = y at *
      have hx : x ≤ 1099511627776 := by omega
      clear hpl
      go_wp2
      go_round
      case rel => exact ⟨k + 1, by omega, by go_num, by rw [hof.out]⟩
      case measure => simp [intOf]; omega
    · go_wp2
      go_ret
      have hk6 : k = s.size := by omega
      subst hk6
      exact ⟨rfl, rfl⟩

set_option maxHeartbeats 400000 in
theorem ref_source (b : Int) (w : World) (h0 : 0 ≤ b) (h1 : b ≤ 65535) :
    Calls TryQ.prog 26 #[.int .i64 b] w fun e w' => e = .returned (.int .i64 (2199023321088 + b)) ∧ w = w' := by
  go_enter TryQ.func26, Try.ntmps26
  go_wp2
  go_ret
  exact ⟨rfl, rfl⟩
end Go.Proofs.Ytlgfogllkoabpaa.QMacP

/-
  Contracts of footwayref03's Right and Print.
-/
namespace Go.Proofs.Ytlgfogllkoabpaa.QMacP
open Go.RowKit Go.Sort
set_option linter.unusedVariables false
set_option maxRecDepth 100000

/-- A config as a value. -/
abbrev cv (r c b p a : Int) : Value := .agg #[.int .i64 r, .int .i64 c, .int .i64 b, .int .i64 p, .int .i64 a]
def okC (r c b p a : Int) : Bool := decide (0 ≤ r ∧ r < 65536 ∧ 0 ≤ b ∧ b < 65536 ∧ 0 ≤ c ∧ c < 2147483648 ∧ 0 ≤ p ∧ p < 8 ∧ 0 ≤ a ∧ a < 256)
theorem okC_yes {r c b p a : Int} (h : okC r c b p a = true) : 0 ≤ r ∧ r < 65536 ∧ 0 ≤ b ∧ b < 65536 ∧ 0 ≤ c ∧ c < 2147483648 ∧ 0 ≤ p ∧ p < 8 ∧ 0 ≤ a ∧ a < 256 := of_decide_eq_true h

set_option maxHeartbeats 2000000 in
theorem ref_cright_any (r c b p a : Int) (w : World) :
    Calls TryQ.prog 13 #[cv r c b p a] w fun e w' => e = .returned (.bool (okC r c b p a)) ∧ Below w.heap.size w w' := by
  by_cases h0 : 0 ≤ r
  · skip
    by_cases h1 : r < 65536
    · skip
      by_cases h2 : 0 ≤ b
      · skip
        by_cases h3 : b < 65536
        · skip
          by_cases h4 : 0 ≤ c
          · skip
            by_cases h5 : c < 2147483648
            · skip
              by_cases h6 : 0 ≤ p
              · skip
                by_cases h7 : p < 8
                · skip
                  by_cases h8 : 0 ≤ a
                  · skip
                    by_cases h9 : a < 256
                    · have hs : Hid (okC r c b p a = true) := Lib.hid (decide_eq_true ⟨h0, h1, h2, h3, h4, h5, h6, h7, h8, h9⟩)
                      go_enter TryQ.func13, Try.ntmps13
                      go_wp2_with fail
                      go_ret
                      exact ⟨by rw [hs.out]; rfl, ((Below.refl _ _).alloc (Nat.le_refl _) _).alloc (by simp) _⟩
                    · have hs : Hid (okC r c b p a = false) := Lib.hid (by unfold okC; rw [decide_eq_false_iff_not]; intro h; exact h9 h.2.2.2.2.2.2.2.2.2)
                      have g9 : decide (a < 256) = false := by rw [decide_eq_false_iff_not]; exact h9
                      clear h9
                      go_enter TryQ.func13, Try.ntmps13
                      go_wp2_with fail
                      go_ret
                      exact ⟨by rw [hs.out]; rfl, ((Below.refl _ _).alloc (Nat.le_refl _) _).alloc (by simp) _⟩
                  · have hs : Hid (okC r c b p a = false) := Lib.hid (by unfold okC; rw [decide_eq_false_iff_not]; intro h; exact h8 h.2.2.2.2.2.2.2.2.1)
                    have g8 : decide (0 ≤ a) = false := by rw [decide_eq_false_iff_not]; exact h8
                    clear h8
                    go_enter TryQ.func13, Try.ntmps13
                    go_wp2_with fail
                    go_ret
                    exact ⟨by rw [hs.out]; rfl, ((Below.refl _ _).alloc (Nat.le_refl _) _).alloc (by simp) _⟩
                · have hs : Hid (okC r c b p a = false) := Lib.hid (by unfold okC; rw [decide_eq_false_iff_not]; intro h; exact h7 h.2.2.2.2.2.2.2.1)
                  have g7 : decide (p < 8) = false := by rw [decide_eq_false_iff_not]; exact h7
                  clear h7
                  go_enter TryQ.func13, Try.ntmps13
                  go_wp2_with fail
                  go_ret
                  exact ⟨by rw [hs.out]; rfl, ((Below.refl _ _).alloc (Nat.le_refl _) _).alloc (by simp) _⟩
              · have hs : Hid (okC r c b p a = false) := Lib.hid (by unfold okC; rw [decide_eq_false_iff_not]; intro h; exact h6 h.2.2.2.2.2.2.1)
                have g6 : decide (0 ≤ p) = false := by rw [decide_eq_false_iff_not]; exact h6
                clear h6
                go_enter TryQ.func13, Try.ntmps13
                go_wp2_with fail
                go_ret
                exact ⟨by rw [hs.out]; rfl, ((Below.refl _ _).alloc (Nat.le_refl _) _).alloc (by simp) _⟩
            · have hs : Hid (okC r c b p a = false) := Lib.hid (by unfold okC; rw [decide_eq_false_iff_not]; intro h; exact h5 h.2.2.2.2.2.1)
              have g5 : decide (c < 2147483648) = false := by rw [decide_eq_false_iff_not]; exact h5
              clear h5
              go_enter TryQ.func13, Try.ntmps13
              go_wp2_with fail
              go_ret
              exact ⟨by rw [hs.out]; rfl, ((Below.refl _ _).alloc (Nat.le_refl _) _).alloc (by simp) _⟩
          · have hs : Hid (okC r c b p a = false) := Lib.hid (by unfold okC; rw [decide_eq_false_iff_not]; intro h; exact h4 h.2.2.2.2.1)
            have g4 : decide (0 ≤ c) = false := by rw [decide_eq_false_iff_not]; exact h4
            clear h4
            go_enter TryQ.func13, Try.ntmps13
            go_wp2_with fail
            go_ret
            exact ⟨by rw [hs.out]; rfl, ((Below.refl _ _).alloc (Nat.le_refl _) _).alloc (by simp) _⟩
        · have hs : Hid (okC r c b p a = false) := Lib.hid (by unfold okC; rw [decide_eq_false_iff_not]; intro h; exact h3 h.2.2.2.1)
          have g3 : decide (b < 65536) = false := by rw [decide_eq_false_iff_not]; exact h3
          clear h3
          go_enter TryQ.func13, Try.ntmps13
          go_wp2_with fail
          go_ret
          exact ⟨by rw [hs.out]; rfl, ((Below.refl _ _).alloc (Nat.le_refl _) _).alloc (by simp) _⟩
      · have hs : Hid (okC r c b p a = false) := Lib.hid (by unfold okC; rw [decide_eq_false_iff_not]; intro h; exact h2 h.2.2.1)
        have g2 : decide (0 ≤ b) = false := by rw [decide_eq_false_iff_not]; exact h2
        clear h2
        go_enter TryQ.func13, Try.ntmps13
        go_wp2_with fail
        go_ret
        exact ⟨by rw [hs.out]; rfl, ((Below.refl _ _).alloc (Nat.le_refl _) _).alloc (by simp) _⟩
    · have hs : Hid (okC r c b p a = false) := Lib.hid (by unfold okC; rw [decide_eq_false_iff_not]; intro h; exact h1 h.2.1)
      have g1 : decide (r < 65536) = false := by rw [decide_eq_false_iff_not]; exact h1
      clear h1
      go_enter TryQ.func13, Try.ntmps13
      go_wp2_with fail
      go_ret
      exact ⟨by rw [hs.out]; rfl, ((Below.refl _ _).alloc (Nat.le_refl _) _).alloc (by simp) _⟩
  · have hs : Hid (okC r c b p a = false) := Lib.hid (by unfold okC; rw [decide_eq_false_iff_not]; intro h; exact h0 h.1)
    have g0 : decide (0 ≤ r) = false := by rw [decide_eq_false_iff_not]; exact h0
    clear h0
    go_enter TryQ.func13, Try.ntmps13
    go_wp2_with fail
    go_ret
    exact ⟨by rw [hs.out]; rfl, ((Below.refl _ _).alloc (Nat.le_refl _) _).alloc (by simp) _⟩

theorem ref_cright_is (r c b p a : Int) (v : Bool) (h : okC r c b p a = v) (w : World) :
    Calls TryQ.prog 13 #[cv r c b p a] w fun e w' => e = .returned (.bool v) ∧ Below w.heap.size w w' := by
  subst h; exact ref_cright_any r c b p a w

def c1 (r : Int) : List Int := numL 0 1 ++ numL r 2
def c2 (r c : Int) : List Int := c1 r ++ numL c 4
def c3 (r c b : Int) : List Int := c2 r c ++ numL b 2
def c4 (r c b p : Int) : List Int := c3 r c b ++ numL p 1
def c5 (r c b p a : Int) : List Int := c4 r c b p ++ numL a 1
theorem c5_len (r c b p a : Int) : (c5 r c b p a).length = 11 := by
  simp only [c5, c4, c3, c2, c1, List.length_append, numL_len]
/-- The byte that makes all a multiple of 256. -/
def chk (r c b p a : Int) : Int := (256 - sumTo (gb (strOfNums (c5 r c b p a))) 11) % 256
/-- A config's bytes. -/
def cBytes (r c b p a : Int) : ByteArray := strOfNums (c5 r c b p a ++ numL (chk r c b p a) 1)

set_option maxHeartbeats 2000000 in
theorem ref_cprint (r c b p a : Int) (w : World) (h : okC r c b p a = true) :
    Calls TryQ.prog 15 #[cv r c b p a] w fun e w' => e = .returned (.string (cBytes r c b p a)) ∧ Below w.heap.size w w' := by
  obtain ⟨r0, r1, b0, b1, x0, x1, p0, p1, a0, a1⟩ := okC_yes h
  clear h
  have q1 : ∀ w, (Op.stringOp .add (strOfNums (numL 0 1)) (strOfNums (numL r 2))).run TryQ.prog w = .ok (.string (strOfNums (c1 r))) w := fun w => str_add _ _ w (by simp only [numL_len]; omega)
  have q2 : ∀ w, (Op.stringOp .add (strOfNums (c1 r)) (strOfNums (numL c 4))).run TryQ.prog w = .ok (.string (strOfNums (c2 r c))) w := fun w => str_add _ _ w (by simp only [c1, List.length_append, numL_len]; omega)
  have q3 : ∀ w, (Op.stringOp .add (strOfNums (c2 r c)) (strOfNums (numL b 2))).run TryQ.prog w = .ok (.string (strOfNums (c3 r c b))) w := fun w => str_add _ _ w (by simp only [c2, c1, List.length_append, numL_len]; omega)
  have q4 : ∀ w, (Op.stringOp .add (strOfNums (c3 r c b)) (strOfNums (numL p 1))).run TryQ.prog w = .ok (.string (strOfNums (c4 r c b p))) w := fun w => str_add _ _ w (by simp only [c3, c2, c1, List.length_append, numL_len]; omega)
  have q5 : ∀ w, (Op.stringOp .add (strOfNums (c4 r c b p)) (strOfNums (numL a 1))).run TryQ.prog w = .ok (.string (strOfNums (c5 r c b p a))) w := fun w => str_add _ _ w (by simp only [c4, c3, c2, c1, List.length_append, numL_len]; omega)
  have q6 : ∀ w, (Op.stringOp .add (strOfNums (c5 r c b p a)) (strOfNums (numL (chk r c b p a) 1))).run TryQ.prog w = .ok (.string (cBytes r c b p a)) w := fun w => str_add _ _ w (by rw [c5_len, numL_len]; omega)
  have hsz : Hid ((strOfNums (c5 r c b p a)).size = 11) := Lib.hid (by rw [strOfNums_size, c5_len])
  have hsum : ∀ W, Calls TryQ.prog 23 #[.string (strOfNums (c5 r c b p a))] W fun e w' => e = .returned (.int .i64 (sumTo (gb (strOfNums (c5 r c b p a))) 11)) ∧ W = w' := fun W => by
    have := ref_sum (strOfNums (c5 r c b p a)) W (by rw [hsz.out]; decide)
    rw [hsz.out] at this; exact this
  have sb := sumTo_bd (gb (strOfNums (c5 r c b p a))) 11
  have hchk : Hid ((256 - sumTo (gb (strOfNums (c5 r c b p a))) 11) % 256 = chk r c b p a) := Lib.hid rfl
  generalize sumTo (gb (strOfNums (c5 r c b p a))) 11 = S at *
  go_enter TryQ.func15, Try.ntmps15
  go_wp2_with fail
  have k0 : ((w.alloc (.cells #[.int .i64 r, .int .i64 c, .int .i64 b, .int .i64 p, .int .i64 a] 25)).alloc (.cells #[.int .i64 r, .int .i64 c, .int .i64 b, .int .i64 p] 23)).cell? ⟨w.heap.size + 1, 0, none⟩ = some (.int .i64 r) := by go_simp
  have k1 : ((w.alloc (.cells #[.int .i64 r, .int .i64 c, .int .i64 b, .int .i64 p, .int .i64 a] 25)).alloc (.cells #[.int .i64 r, .int .i64 c, .int .i64 b, .int .i64 p] 23)).cell? ⟨w.heap.size + 1, 1, none⟩ = some (.int .i64 c) := by go_simp
  have k2 : ((w.alloc (.cells #[.int .i64 r, .int .i64 c, .int .i64 b, .int .i64 p, .int .i64 a] 25)).alloc (.cells #[.int .i64 r, .int .i64 c, .int .i64 b, .int .i64 p] 23)).cell? ⟨w.heap.size + 1, 2, none⟩ = some (.int .i64 b) := by go_simp
  have k3 : ((w.alloc (.cells #[.int .i64 r, .int .i64 c, .int .i64 b, .int .i64 p, .int .i64 a] 25)).alloc (.cells #[.int .i64 r, .int .i64 c, .int .i64 b, .int .i64 p] 23)).cell? ⟨w.heap.size + 1, 3, none⟩ = some (.int .i64 p) := by go_simp
  have k4 : ((w.alloc (.cells #[.int .i64 r, .int .i64 c, .int .i64 b, .int .i64 p, .int .i64 a] 25)).alloc (.cells #[.int .i64 r, .int .i64 c, .int .i64 b, .int .i64 p] 23)).cell? ⟨w.heap.size, 4, none⟩ = some (.int .i64 a) := by go_simp
  have B1 : Below w.heap.size w ((w.alloc (.cells #[.int .i64 r, .int .i64 c, .int .i64 b, .int .i64 p, .int .i64 a] 25)).alloc (.cells #[.int .i64 r, .int .i64 c, .int .i64 b, .int .i64 p] 23)) := ((Below.refl _ _).alloc (Nat.le_refl _) _).alloc (by simp) _
  generalize ((w.alloc (.cells #[.int .i64 r, .int .i64 c, .int .i64 b, .int .i64 p, .int .i64 a] 25)).alloc (.cells #[.int .i64 r, .int .i64 c, .int .i64 b, .int .i64 p] 23)) = W at *
  have K0 := cell_regrown k0
  have K1 := cell_regrown k1
  have K2 := cell_regrown k2
  have K3 := cell_regrown k3
  have K4 := cell_regrown k4
  have n0 : ∀ q os, Calls TryQ.prog 28 #[.int .i64 0, .int .i64 1] (grow (redrawn W q) os) fun e w'' => e = .returned (.string (strOfNums (numL 0 1))) ∧ ∃ p : Regrown, w'' = grow (redrawn W p.d) p.os := fun q os => Calls.regrown_of (ref_number 1 0 _ (by decide) (by decide) (by decide))
  have n1 : ∀ q os, Calls TryQ.prog 28 #[.int .i64 r, .int .i64 2] (grow (redrawn W q) os) fun e w'' => e = .returned (.string (strOfNums (numL r 2))) ∧ ∃ p : Regrown, w'' = grow (redrawn W p.d) p.os := fun q os => Calls.regrown_of (ref_number 2 r _ (by decide) (by omega) (by omega))
  have n2 : ∀ q os, Calls TryQ.prog 28 #[.int .i64 c, .int .i64 4] (grow (redrawn W q) os) fun e w'' => e = .returned (.string (strOfNums (numL c 4))) ∧ ∃ p : Regrown, w'' = grow (redrawn W p.d) p.os := fun q os => Calls.regrown_of (ref_number 4 c _ (by decide) (by omega) (by omega))
  have n3 : ∀ q os, Calls TryQ.prog 28 #[.int .i64 b, .int .i64 2] (grow (redrawn W q) os) fun e w'' => e = .returned (.string (strOfNums (numL b 2))) ∧ ∃ p : Regrown, w'' = grow (redrawn W p.d) p.os := fun q os => Calls.regrown_of (ref_number 2 b _ (by decide) (by omega) (by omega))
  have n4 : ∀ q os, Calls TryQ.prog 28 #[.int .i64 p, .int .i64 1] (grow (redrawn W q) os) fun e w'' => e = .returned (.string (strOfNums (numL p 1))) ∧ ∃ p : Regrown, w'' = grow (redrawn W p.d) p.os := fun q os => Calls.regrown_of (ref_number 1 p _ (by decide) (by omega) (by omega))
  have n5 : ∀ q os, Calls TryQ.prog 28 #[.int .i64 a, .int .i64 1] (grow (redrawn W q) os) fun e w'' => e = .returned (.string (strOfNums (numL a 1))) ∧ ∃ p : Regrown, w'' = grow (redrawn W p.d) p.os := fun q os => Calls.regrown_of (ref_number 1 a _ (by decide) (by omega) (by omega))
  refine wp_region_quiet_below (by kernel_rfl) (by kernel_rfl) ?_
  repeat (first | go_big_quiet_step (first | with_reducible exact n0 _ _ | with_reducible exact n1 _ _ | with_reducible exact n2 _ _ | with_reducible exact n3 _ _ | with_reducible exact n4 _ _ | with_reducible exact n5 _ _) | quiet_step (first | with_reducible exact n0 _ _ | with_reducible exact n1 _ _ | with_reducible exact n2 _ _ | with_reducible exact n3 _ _ | with_reducible exact n4 _ _ | with_reducible exact n5 _ _))
  refine wpQuiet_nil ?_
  intro _ hw'
  obtain ⟨⟨dq, osq⟩, hw''⟩ := hw'
  subst hw''
  have hb7 := below_regrown W dq osq
  have B2 : Below w.heap.size w (grow (redrawn W dq) osq) := B1.trans (hb7.mono B1.size)
  clear K0 K1 K2 K3 K4 k0 k1 k2 k3 k4 n0 n1 n2 n3 n4 n5 hb7 q1 q2 q3 q4 q5
  generalize grow (redrawn W dq) osq = W7 at *
  have d1 : (256 - S).tmod 256 = (256 - S) % 256 := Int.tmod_eq_emod_of_nonneg (by omega)
  have d2 : (256 - S) % 256 = chk r c b p a := hchk.out
  have d3 : IntKind.i64.wrap (256 - S) = 256 - S := IntWalk.i64_in _ (by omega)
  have cb : 0 ≤ chk r c b p a ∧ chk r c b p a < 256 := by rw [← d2]; omega
  have d4 : IntKind.i64.wrap (chk r c b p a) = chk r c b p a := IntWalk.i64_in _ (by omega)
  go_wp2_with fail
  go_at_call 23
  (with_reducible refine (hsum _).mono ?_)
  rintro e w' ⟨rfl, rfl⟩
  go_wp2_with fail
  go_at_call 28
  refine (ref_number 1 (chk r c b p a) _ (by decide) (by omega) (by omega)).mono ?_
  rintro e w8 ⟨rfl, hb8⟩
  go_wp2_with fail
  go_ret
  exact ⟨rfl, B2.trans (hb8.mono B2.size)⟩
end Go.Proofs.Ytlgfogllkoabpaa.QMacP

/-
  Contract of footwayref03.Parse.
-/
namespace Go.Proofs.Ytlgfogllkoabpaa.QMacP
open Go.RowKit
set_option linter.unusedVariables false
set_option maxRecDepth 100000

theorem array5 {α : Type} {xs : Array α} (h : xs.size = 5) : ∃ a b c d e, xs = #[a, b, c, d, e] := by
  obtain ⟨l⟩ := xs
  match l, h with
  | [a, b, c, d, e], _ => exact ⟨a, b, c, d, e, rfl⟩
/-- The number that stands in the bytes from j to k. -/
def rd (s : ByteArray) (j k : Nat) : Int := ofTo (gb (s.extract j k)) (k - j)
theorem ref_readw (s : ByteArray) (j k : Nat) (h : k ≤ s.size) (hk : k - j ≤ 6) (w : World) :
    Calls TryQ.prog 24 #[.string (s.extract j k)] w fun e w' => e = .returned (.int .i64 (rd s j k)) ∧ w = w' := by
  have := ref_read (s.extract j k) w (by rw [ext_size _ _ _ h]; exact hk)
  rw [ext_size _ _ _ h] at this
  exact this
/-- What Parse tells: its error. -/
def cE (s : ByteArray) : Int := if s.size < 12 then 7 else if 12 < s.size then 8 else if sumTo (gb s) 12 ≠ 0 then 9 else if gb s 0 = 0 ∧ okC (rd s 1 3) (rd s 3 7) (rd s 7 9) (rd s 9 10) (rd s 10 11) = true then 0 else 10
def cF (s : ByteArray) (j k : Nat) : Int := if cE s = 0 then rd s j k else 0
def cTup (s : ByteArray) : Value := .tuple #[cv (cF s 1 3) (cF s 3 7) (cF s 7 9) (cF s 9 10) (cF s 10 11), .int .i64 (cE s)]
theorem cTup_bad (s : ByteArray) (n : Int) (h : cE s = n) (hn : n ≠ 0) : cTup s = .tuple #[cv 0 0 0 0 0, .int .i64 n] := by
  subst h; simp only [cTup, cF, if_neg hn]
theorem cTup_good (s : ByteArray) (h : cE s = 0) : cTup s = .tuple #[cv (rd s 1 3) (rd s 3 7) (rd s 7 9) (rd s 9 10) (rd s 10 11), .int .i64 0] := by
  simp only [cTup, cF, h, if_true]

/-- What the operations of Parse's literal yield. -/
def rqVal (s : ByteArray) : Nat → Value
  | 0 => .string s
  | 1 => .string (s.extract 1 3)
  | 2 => .int .i64 (rd s 1 3)
  | 3 => .string s
  | 4 => .string (s.extract 3 7)
  | 5 => .int .i64 (rd s 3 7)
  | 6 => .string s
  | 7 => .string (s.extract 7 9)
  | 8 => .int .i64 (rd s 7 9)
  | 9 => .string s
  | 10 => .string (s.extract 9 10)
  | 11 => .int .i64 (rd s 9 10)
  | 12 => .agg #[.int .i64 (rd s 1 3), .int .i64 (rd s 3 7), .int .i64 (rd s 7 9), .int .i64 (rd s 9 10)]
  | 13 => .string s
  | 14 => .string (s.extract 10 11)
  | 15 => .int .i64 (rd s 10 11)
  | 16 => cv (rd s 1 3) (rd s 3 7) (rd s 7 9) (rd s 9 10) (rd s 10 11)
  | _ => undef
def rqSlot (i : Nat) : Nat := if i = 17 then 4 else i + 17
def rqSp (s : ByteArray) (i : Nat) (v : Value) (w : World) : Prop := v = rqVal s i

set_option maxHeartbeats 400000 in
theorem ref_cparse_len (s : ByteArray) (n : Int) (hn : n ≠ 0) (h : (if s.size < 12 then (7 : Int) else if 12 < s.size then 8 else 0) = n) (w : World) (hs : s.size ≤ maxLen) :
    Calls TryQ.prog 10 #[.string s] w fun e w' => e = .returned (.tuple #[cv 0 0 0 0 0, .int .i64 n]) ∧ Below w.heap.size w w' := by
  unfold maxLen at hs
  by_cases h1 : s.size < 12
  · rw [if_pos h1] at h
    subst h
    go_enter TryQ.func10, Try.ntmps10
    go_wp2_with fail
    refine bodyPost_ret (v := .tuple #[cv 0 0 0 0 0, .int .i64 7]) (by simp [results, Try.results10, go_sem]) rfl ⟨rfl, ?_⟩
    repeat (first | exact Below.refl _ _ | refine Below.setCell ?_ (by simp) _ | refine Below.alloc ?_ (by simp) _)
  · rw [if_neg h1] at h
    by_cases h2 : 12 < s.size
    · rw [if_pos h2] at h
      subst h
      go_enter TryQ.func10, Try.ntmps10
      go_wp2_with fail
      refine bodyPost_ret (v := .tuple #[cv 0 0 0 0 0, .int .i64 8]) (by simp [results, Try.results10, go_sem]) rfl ⟨rfl, ?_⟩
      repeat (first | exact Below.refl _ _ | refine Below.setCell ?_ (by simp) _ | refine Below.alloc ?_ (by simp) _)
    · rw [if_neg h2] at h
      exact absurd h.symm hn

theorem ref_sum12 (s : ByteArray) (n : Int) (h : s.size = 12) (hn : sumTo (gb s) 12 = n) (w : World) :
    Calls TryQ.prog 23 #[.string s] w fun e w' => e = .returned (.int .i64 n) ∧ w = w' := by
  have := ref_sum s w (by omega)
  rw [h, hn] at this
  exact this

set_option maxHeartbeats 400000 in
theorem ref_cparse_sum (s : ByteArray) (n : Int) (w : World) (h : s.size = 12) (hs : sumTo (gb s) 12 = n) (hn : n ≠ 0) :
    Calls TryQ.prog 10 #[.string s] w fun e w' => e = .returned (.tuple #[cv 0 0 0 0 0, .int .i64 9]) ∧ Below w.heap.size w w' := by
  have h1 : 12 ≤ s.size := by omega
  have h2 : s.size ≤ 12 := by omega
  have H := Lib.hid h
  have HS := Lib.hid hs
  have hn' : (n != 0) = true := by simpa using hn
  clear h hs hn
  go_enter TryQ.func10, Try.ntmps10
  go_wp2_with (go_at_call 23; refine (ref_sum12 s n H.out HS.out _).mono ?_; rintro e w' ⟨rfl, rfl⟩)
  refine bodyPost_ret (v := .tuple #[cv 0 0 0 0 0, .int .i64 9]) (by simp [results, Try.results10, go_sem]) rfl ⟨rfl, ?_⟩
  repeat (first | exact Below.refl _ _ | refine Below.setCell ?_ (by simp) _ | refine Below.alloc ?_ (by simp) _)

set_option maxHeartbeats 2000000 in
theorem ref_cparse_mid (s : ByteArray) (w : World) (h : s.size = 12) (hs : sumTo (gb s) 12 = 0) :
    Calls TryQ.prog 10 #[.string s] w fun e w' => e = .returned (cTup s) ∧ Below w.heap.size w w' := by
  have h1 : 12 ≤ s.size := by omega
  have h2 : s.size ≤ 12 := by omega
  have H := Lib.hid h
  have HS := Lib.hid hs
  have g0 := gb_bd s 0
  have n3 : (3 : Int) ≤ (s.size : Int) := by omega
  have n7 : (7 : Int) ≤ (s.size : Int) := by omega
  have n9 : (9 : Int) ≤ (s.size : Int) := by omega
  have n10 : (10 : Int) ≤ (s.size : Int) := by omega
  have n11 : (11 : Int) ≤ (s.size : Int) := by omega
  have l0 : (0 : Int) < (s.size : Int) := by omega
  have b0 : 0 < s.size := by omega
  have z0 := get_gb s 0 b0
  clear h hs
  go_enter TryQ.func10, Try.ntmps10
  go_upto_region 7 with (go_at_call 23; refine (ref_sum12 s 0 H.out HS.out _).mono ?_; rintro e w' ⟨rfl, rfl⟩)
  have hz : (w.alloc (.cells #[.int .i64 0, .int .i64 0, .int .i64 0, .int .i64 0, .int .i64 0] 25)).heap.size = w.heap.size + 1 := by simp
  have k0 : ∀ j v, (#[.int .i64 0, .int .i64 0, .int .i64 0, .int .i64 0, .int .i64 0] : Array Value)[j]? = some v → (w.alloc (.cells #[.int .i64 0, .int .i64 0, .int .i64 0, .int .i64 0, .int .i64 0] 25)).cell? ⟨w.heap.size, j, none⟩ = some v := fun j v hj => by rw [World.cell?_alloc_new, hj]
  have kf : ∀ j, (w.alloc (.cells #[.int .i64 0, .int .i64 0, .int .i64 0, .int .i64 0, .int .i64 0] 25)).frozen? ⟨w.heap.size, j, none⟩ = false := fun j => by go_simp
  have hW : Below w.heap.size w (w.alloc (.cells #[.int .i64 0, .int .i64 0, .int .i64 0, .int .i64 0, .int .i64 0] 25)) := (Below.refl _ _).alloc (Nat.le_refl _) _
  generalize w.alloc (.cells #[.int .i64 0, .int .i64 0, .int .i64 0, .int .i64 0, .int .i64 0] 25) = W at *
  refine wp_region_lit (by kernel_rfl) rqSlot 17 18 25 #[.int .i64 0, .int .i64 0, .int .i64 0, .int .i64 0, .int .i64 0] #[.int .i64 (rd s 1 3), .int .i64 (rd s 3 7), .int .i64 (rd s 7 9), .int .i64 (rd s 9 10), .int .i64 (rd s 10 11)] (by decide) (by decide) (by decide) (by kernel_rfl) (by kernel_rfl) (by kernel_rfl) rfl
    (rqSp s) (fun _ _ _ _ h _ => h) (fun _ _ _ _ _ h _ _ => h) ?_ ?_
  · refine ⟨?_, ?_, ?_, ?_, ?_, ?_, ?_, ?_, ?_, ?_, ?_, ?_, ?_, ?_, ?_, ?_, ?_, ?_, ?_, trivial⟩
    · intro a w1 K hb hdep hk hK
      have h0 : a.tmps.getD 0 undef = .string s := hk 0 (by kernel_rfl)
      replace hK : ∀ v w', v = .string s → Below w1.heap.size w1 w' → K (a.put (some 17) v) w' := hK
      clear hdep hk
      go_simp
      exact hK _ _ rfl (Below.refl _ _)
    · intro a w1 K hb hdep hk hK
      have h0 : a.tmps.getD 17 undef = .string s := hdep ⟨0, .data⟩ (by simp) rfl (by decide) (by decide)
      replace hK : ∀ v w', v = .string (s.extract 1 3) → Below w1.heap.size w1 w' → K (a.put (some 18) v) w' := hK
      clear hdep hk
      go_simp
      exact hK _ _ rfl (Below.refl _ _)
    · intro a w1 K hb hdep hk hK
      have h1 : a.tmps.getD 18 undef = .string (s.extract 1 3) := hdep ⟨1, .data⟩ (by simp) rfl (by decide) (by decide)
      replace hK : ∀ v w', v = .int .i64 (rd s 1 3) → Below w1.heap.size w1 w' → K (a.put (some 19) v) w' := hK
      clear hdep hk
      go_simp
      refine (ref_readw s 1 3 (by omega) (by decide) _).mono ?_
      rintro e w' ⟨rfl, rfl⟩
      exact hK _ _ rfl (Below.refl _ _)
    · intro a w1 K hb hdep hk hK
      have h0 : a.tmps.getD 0 undef = .string s := hk 0 (by kernel_rfl)
      replace hK : ∀ v w', v = .string s → Below w1.heap.size w1 w' → K (a.put (some 20) v) w' := hK
      clear hdep hk
      go_simp
      exact hK _ _ rfl (Below.refl _ _)
    · intro a w1 K hb hdep hk hK
      have h3 : a.tmps.getD 20 undef = .string s := hdep ⟨3, .data⟩ (by simp) rfl (by decide) (by decide)
      replace hK : ∀ v w', v = .string (s.extract 3 7) → Below w1.heap.size w1 w' → K (a.put (some 21) v) w' := hK
      clear hdep hk
      go_simp
      exact hK _ _ rfl (Below.refl _ _)
    · intro a w1 K hb hdep hk hK
      have h4 : a.tmps.getD 21 undef = .string (s.extract 3 7) := hdep ⟨4, .data⟩ (by simp) rfl (by decide) (by decide)
      replace hK : ∀ v w', v = .int .i64 (rd s 3 7) → Below w1.heap.size w1 w' → K (a.put (some 22) v) w' := hK
      clear hdep hk
      go_simp
      refine (ref_readw s 3 7 (by omega) (by decide) _).mono ?_
      rintro e w' ⟨rfl, rfl⟩
      exact hK _ _ rfl (Below.refl _ _)
    · intro a w1 K hb hdep hk hK
      have h0 : a.tmps.getD 0 undef = .string s := hk 0 (by kernel_rfl)
      replace hK : ∀ v w', v = .string s → Below w1.heap.size w1 w' → K (a.put (some 23) v) w' := hK
      clear hdep hk
      go_simp
      exact hK _ _ rfl (Below.refl _ _)
    · intro a w1 K hb hdep hk hK
      have h6 : a.tmps.getD 23 undef = .string s := hdep ⟨6, .data⟩ (by simp) rfl (by decide) (by decide)
      replace hK : ∀ v w', v = .string (s.extract 7 9) → Below w1.heap.size w1 w' → K (a.put (some 24) v) w' := hK
      clear hdep hk
      go_simp
      exact hK _ _ rfl (Below.refl _ _)
    · intro a w1 K hb hdep hk hK
      have h7 : a.tmps.getD 24 undef = .string (s.extract 7 9) := hdep ⟨7, .data⟩ (by simp) rfl (by decide) (by decide)
      replace hK : ∀ v w', v = .int .i64 (rd s 7 9) → Below w1.heap.size w1 w' → K (a.put (some 25) v) w' := hK
      clear hdep hk
      go_simp
      refine (ref_readw s 7 9 (by omega) (by decide) _).mono ?_
      rintro e w' ⟨rfl, rfl⟩
      exact hK _ _ rfl (Below.refl _ _)
    · intro a w1 K hb hdep hk hK
      have h0 : a.tmps.getD 0 undef = .string s := hk 0 (by kernel_rfl)
      replace hK : ∀ v w', v = .string s → Below w1.heap.size w1 w' → K (a.put (some 26) v) w' := hK
      clear hdep hk
      go_simp
      exact hK _ _ rfl (Below.refl _ _)
    · intro a w1 K hb hdep hk hK
      have h9 : a.tmps.getD 26 undef = .string s := hdep ⟨9, .data⟩ (by simp) rfl (by decide) (by decide)
      replace hK : ∀ v w', v = .string (s.extract 9 10) → Below w1.heap.size w1 w' → K (a.put (some 27) v) w' := hK
      clear hdep hk
      go_simp
      exact hK _ _ rfl (Below.refl _ _)
    · intro a w1 K hb hdep hk hK
      have h10 : a.tmps.getD 27 undef = .string (s.extract 9 10) := hdep ⟨10, .data⟩ (by simp) rfl (by decide) (by decide)
      replace hK : ∀ v w', v = .int .i64 (rd s 9 10) → Below w1.heap.size w1 w' → K (a.put (some 28) v) w' := hK
      clear hdep hk
      go_simp
      refine (ref_readw s 9 10 (by omega) (by decide) _).mono ?_
      rintro e w' ⟨rfl, rfl⟩
      exact hK _ _ rfl (Below.refl _ _)
    · intro a w1 K hb hdep hk hK
      have h2 : a.tmps.getD 19 undef = .int .i64 (rd s 1 3) := hdep ⟨2, .data⟩ (by simp) rfl (by decide) (by decide)
      have h5 : a.tmps.getD 22 undef = .int .i64 (rd s 3 7) := hdep ⟨5, .data⟩ (by simp) rfl (by decide) (by decide)
      have h8 : a.tmps.getD 25 undef = .int .i64 (rd s 7 9) := hdep ⟨8, .data⟩ (by simp) rfl (by decide) (by decide)
      have h11 : a.tmps.getD 28 undef = .int .i64 (rd s 9 10) := hdep ⟨11, .data⟩ (by simp) rfl (by decide) (by decide)
      replace hK : ∀ v w', v = .agg #[.int .i64 (rd s 1 3), .int .i64 (rd s 3 7), .int .i64 (rd s 7 9), .int .i64 (rd s 9 10)] → Below w1.heap.size w1 w' → K (a.put (some 29) v) w' := hK
      have g2 : a.tmps[19]?.getD undef = .int .i64 (rd s 1 3) := by simpa [Array.getD_eq_getD_getElem?] using h2
      have g5 : a.tmps[22]?.getD undef = .int .i64 (rd s 3 7) := by simpa [Array.getD_eq_getD_getElem?] using h5
      have g8 : a.tmps[25]?.getD undef = .int .i64 (rd s 7 9) := by simpa [Array.getD_eq_getD_getElem?] using h8
      have g11 : a.tmps[28]?.getD undef = .int .i64 (rd s 9 10) := by simpa [Array.getD_eq_getD_getElem?] using h11
      clear hdep hk h2 h5 h8 h11
      go_simp
      exact hK _ _ rfl (Below.refl _ _)
    · intro a w1 K hb hdep hk hK
      have h0 : a.tmps.getD 0 undef = .string s := hk 0 (by kernel_rfl)
      replace hK : ∀ v w', v = .string s → Below w1.heap.size w1 w' → K (a.put (some 30) v) w' := hK
      clear hdep hk
      go_simp
      exact hK _ _ rfl (Below.refl _ _)
    · intro a w1 K hb hdep hk hK
      have h13 : a.tmps.getD 30 undef = .string s := hdep ⟨13, .data⟩ (by simp) rfl (by decide) (by decide)
      replace hK : ∀ v w', v = .string (s.extract 10 11) → Below w1.heap.size w1 w' → K (a.put (some 31) v) w' := hK
      clear hdep hk
      go_simp
      exact hK _ _ rfl (Below.refl _ _)
    · intro a w1 K hb hdep hk hK
      have h14 : a.tmps.getD 31 undef = .string (s.extract 10 11) := hdep ⟨14, .data⟩ (by simp) rfl (by decide) (by decide)
      replace hK : ∀ v w', v = .int .i64 (rd s 10 11) → Below w1.heap.size w1 w' → K (a.put (some 32) v) w' := hK
      clear hdep hk
      go_simp
      refine (ref_readw s 10 11 (by omega) (by decide) _).mono ?_
      rintro e w' ⟨rfl, rfl⟩
      exact hK _ _ rfl (Below.refl _ _)
    · intro a w1 K hb hdep hk hK
      have h12 : a.tmps.getD 29 undef = .agg #[.int .i64 (rd s 1 3), .int .i64 (rd s 3 7), .int .i64 (rd s 7 9), .int .i64 (rd s 9 10)] := hdep ⟨12, .data⟩ (by simp) rfl (by decide) (by decide)
      have h15 : a.tmps.getD 32 undef = .int .i64 (rd s 10 11) := hdep ⟨15, .data⟩ (by simp) rfl (by decide) (by decide)
      replace hK : ∀ v w', v = cv (rd s 1 3) (rd s 3 7) (rd s 7 9) (rd s 9 10) (rd s 10 11) → Below w1.heap.size w1 w' → K (a.put (some 33) v) w' := hK
      have g12 : a.tmps[29]?.getD undef = .agg #[.int .i64 (rd s 1 3), .int .i64 (rd s 3 7), .int .i64 (rd s 7 9), .int .i64 (rd s 9 10)] := by simpa [Array.getD_eq_getD_getElem?] using h12
      have g15 : a.tmps[32]?.getD undef = .int .i64 (rd s 10 11) := by simpa [Array.getD_eq_getD_getElem?] using h15
      clear hdep hk h12 h15
      go_simp
      exact hK _ _ rfl (Below.refl _ _)
    · intro a w1 K hb hdep hk hK
      replace hK : K (a.put (some 4) (.pointer (some ⟨w1.heap.size, 0, none⟩))) (w1.alloc (.cells #[.int .i64 0, .int .i64 0, .int .i64 0, .int .i64 0, .int .i64 0] 25)) := hK
      clear hdep hk
      go_simp
      exact hK
    · intro a w1 K hb hdep hk hK
      have h16 : a.tmps.getD 33 undef = cv (rd s 1 3) (rd s 3 7) (rd s 7 9) (rd s 9 10) (rd s 10 11) := hdep ⟨16, .data⟩ (by simp) rfl (by decide) (by decide)
      obtain ⟨b, cs, h4, hblk, hcs, hK⟩ : ∃ b cs, a.tmps.getD 4 undef = .pointer (some ⟨b, 0, none⟩) ∧ w1.heap[b]? = some (.cells cs 25 (0, 0)) ∧ cs.size = 5 ∧ ∀ w', Wrote b #[.int .i64 (rd s 1 3), .int .i64 (rd s 3 7), .int .i64 (rd s 7 9), .int .i64 (rd s 9 10), .int .i64 (rd s 10 11)] 25 w1 w' → K a w' := hK
      obtain ⟨c0, c1, c2, c3, c4, rfl⟩ := array5 hcs
      have e0 : w1.cell? ⟨b, 0, none⟩ = some c0 := Joins.cell_of_block hblk 0
      have e1 : w1.cell? ⟨b, 1, none⟩ = some c1 := Joins.cell_of_block hblk 1
      have e2 : w1.cell? ⟨b, 2, none⟩ = some c2 := Joins.cell_of_block hblk 2
      have e3 : w1.cell? ⟨b, 3, none⟩ = some c3 := Joins.cell_of_block hblk 3
      have e4 : w1.cell? ⟨b, 4, none⟩ = some c4 := Joins.cell_of_block hblk 4
      have f0 : w1.frozen? ⟨b, 0, none⟩ = false := Joins.unfrozen_of_block hblk 0
      have f1 : w1.frozen? ⟨b, 1, none⟩ = false := Joins.unfrozen_of_block hblk 1
      have f2 : w1.frozen? ⟨b, 2, none⟩ = false := Joins.unfrozen_of_block hblk 2
      have f3 : w1.frozen? ⟨b, 3, none⟩ = false := Joins.unfrozen_of_block hblk 3
      have f4 : w1.frozen? ⟨b, 4, none⟩ = false := Joins.unfrozen_of_block hblk 4
      clear hdep hk
      go_simp
      exact hK _ ((((((Wrote.start hblk).set (i := 0) _).set (i := 1) _).set (i := 2) _).set (i := 3) _).set (i := 4) _)
  · intro a w1 b hb hsp hk h4 hbB hblk hn hdf
    have s0 : a.tmps.getD 0 undef = .string s := hk 0 (by kernel_rfl)
    have s2 : a.tmps.getD 2 undef = .pointer (some ⟨w.heap.size, 0, none⟩) := hk 2 (by kernel_rfl)
    have s3 : a.tmps.getD 3 undef = .int .i64 0 := hk 3 (by kernel_rfl)
    have s4 : a.tmps.getD 4 undef = .pointer (some ⟨b, 0, none⟩) := h4
    clear hsp hk h4
    obtain ⟨tm, df⟩ := a
    have e := arr_out tm 44 hn
    replace e : tm = #[tm.getD 0 undef, tm.getD 1 undef, tm.getD 2 undef, tm.getD 3 undef, tm.getD 4 undef, tm.getD 5 undef, tm.getD 6 undef, tm.getD 7 undef, tm.getD 8 undef, tm.getD 9 undef, tm.getD 10 undef, tm.getD 11 undef, tm.getD 12 undef, tm.getD 13 undef, tm.getD 14 undef, tm.getD 15 undef, tm.getD 16 undef, tm.getD 17 undef, tm.getD 18 undef, tm.getD 19 undef, tm.getD 20 undef, tm.getD 21 undef, tm.getD 22 undef, tm.getD 23 undef, tm.getD 24 undef, tm.getD 25 undef, tm.getD 26 undef, tm.getD 27 undef, tm.getD 28 undef, tm.getD 29 undef, tm.getD 30 undef, tm.getD 31 undef, tm.getD 32 undef, tm.getD 33 undef, tm.getD 34 undef, tm.getD 35 undef, tm.getD 36 undef, tm.getD 37 undef, tm.getD 38 undef, tm.getD 39 undef, tm.getD 40 undef, tm.getD 41 undef, tm.getD 42 undef, tm.getD 43 undef] := e
    simp only at s0 s2 s3 s4 hdf
    rw [s0, s2, s3, s4] at e
    subst hdf
    clear s0 s2 s3 s4 hn
    generalize tm.getD 1 undef = u1 at e
    generalize tm.getD 5 undef = u5 at e
    generalize tm.getD 6 undef = u6 at e
    generalize tm.getD 7 undef = u7 at e
    generalize tm.getD 8 undef = u8 at e
    generalize tm.getD 9 undef = u9 at e
    generalize tm.getD 10 undef = u10 at e
    generalize tm.getD 11 undef = u11 at e
    generalize tm.getD 12 undef = u12 at e
    generalize tm.getD 13 undef = u13 at e
    generalize tm.getD 14 undef = u14 at e
    generalize tm.getD 15 undef = u15 at e
    generalize tm.getD 16 undef = u16 at e
    generalize tm.getD 17 undef = u17 at e
    generalize tm.getD 18 undef = u18 at e
    generalize tm.getD 19 undef = u19 at e
    generalize tm.getD 20 undef = u20 at e
    generalize tm.getD 21 undef = u21 at e
    generalize tm.getD 22 undef = u22 at e
    generalize tm.getD 23 undef = u23 at e
    generalize tm.getD 24 undef = u24 at e
    generalize tm.getD 25 undef = u25 at e
    generalize tm.getD 26 undef = u26 at e
    generalize tm.getD 27 undef = u27 at e
    generalize tm.getD 28 undef = u28 at e
    generalize tm.getD 29 undef = u29 at e
    generalize tm.getD 30 undef = u30 at e
    generalize tm.getD 31 undef = u31 at e
    generalize tm.getD 32 undef = u32 at e
    generalize tm.getD 33 undef = u33 at e
    generalize tm.getD 34 undef = u34 at e
    generalize tm.getD 35 undef = u35 at e
    generalize tm.getD 36 undef = u36 at e
    generalize tm.getD 37 undef = u37 at e
    generalize tm.getD 38 undef = u38 at e
    generalize tm.getD 39 undef = u39 at e
    generalize tm.getD 40 undef = u40 at e
    generalize tm.getD 41 undef = u41 at e
    generalize tm.getD 42 undef = u42 at e
    generalize tm.getD 43 undef = u43 at e
    subst e
    have lt : w.heap.size < W.heap.size := by omega
    have zz : w.heap.size < w1.heap.size := Nat.lt_of_lt_of_le lt hb.size
    have q0 : w1.cell? ⟨w.heap.size, 0, none⟩ = some (.int .i64 0) := (hb.cell (p := ⟨w.heap.size, 0, none⟩) lt).trans (k0 0 _ rfl)
    have p0 : w1.frozen? ⟨w.heap.size, 0, none⟩ = false := (hb.frozen (p := ⟨w.heap.size, 0, none⟩) lt).trans (kf 0)
    have q1 : w1.cell? ⟨w.heap.size, 1, none⟩ = some (.int .i64 0) := (hb.cell (p := ⟨w.heap.size, 1, none⟩) lt).trans (k0 1 _ rfl)
    have p1 : w1.frozen? ⟨w.heap.size, 1, none⟩ = false := (hb.frozen (p := ⟨w.heap.size, 1, none⟩) lt).trans (kf 1)
    have q2 : w1.cell? ⟨w.heap.size, 2, none⟩ = some (.int .i64 0) := (hb.cell (p := ⟨w.heap.size, 2, none⟩) lt).trans (k0 2 _ rfl)
    have p2 : w1.frozen? ⟨w.heap.size, 2, none⟩ = false := (hb.frozen (p := ⟨w.heap.size, 2, none⟩) lt).trans (kf 2)
    have q3 : w1.cell? ⟨w.heap.size, 3, none⟩ = some (.int .i64 0) := (hb.cell (p := ⟨w.heap.size, 3, none⟩) lt).trans (k0 3 _ rfl)
    have p3 : w1.frozen? ⟨w.heap.size, 3, none⟩ = false := (hb.frozen (p := ⟨w.heap.size, 3, none⟩) lt).trans (kf 3)
    have q4 : w1.cell? ⟨w.heap.size, 4, none⟩ = some (.int .i64 0) := (hb.cell (p := ⟨w.heap.size, 4, none⟩) lt).trans (k0 4 _ rfl)
    have p4 : w1.frozen? ⟨w.heap.size, 4, none⟩ = false := (hb.frozen (p := ⟨w.heap.size, 4, none⟩) lt).trans (kf 4)
    have e0 : w1.cell? ⟨b, 0, none⟩ = some (.int .i64 (rd s 1 3)) := Joins.cell_of_block hblk 0
    have e1 : w1.cell? ⟨b, 1, none⟩ = some (.int .i64 (rd s 3 7)) := Joins.cell_of_block hblk 1
    have e2 : w1.cell? ⟨b, 2, none⟩ = some (.int .i64 (rd s 7 9)) := Joins.cell_of_block hblk 2
    have e3 : w1.cell? ⟨b, 3, none⟩ = some (.int .i64 (rd s 9 10)) := Joins.cell_of_block hblk 3
    have e4 : w1.cell? ⟨b, 4, none⟩ = some (.int .i64 (rd s 10 11)) := Joins.cell_of_block hblk 4
    have bb : b < w1.heap.size := by
      rcases Nat.lt_or_ge b w1.heap.size with q | q
      · exact q
      · rw [Array.getElem?_eq_none q] at hblk; cases hblk
    have hB : Below w.heap.size w w1 := hW.trans (hb.mono (Nat.le_of_lt lt))
    clear k0 kf hblk n3 n7 n9 n10 n11 hz lt
    show Exit.then _ _ _ _ _
    simp only [Exit.then]
    by_cases hz0 : gb s 0 = 0
    · have zb : (gb s 0 != 0) = false := by rw [hz0]; rfl
      have z1 : ((s[0]'b0).toNat : Int) = 0 := by rw [z0, hz0]
      cases hr : okC (rd s 1 3) (rd s 3 7) (rd s 7 9) (rd s 9 10) (rd s 10 11)
      · have HR := Lib.hid hr
        have hp : Hid (cTup s = .tuple #[cv 0 0 0 0 0, .int .i64 10]) := Lib.hid (cTup_bad s 10 (by
          unfold cE
          rw [if_neg (by omega), if_neg (by omega), if_neg (by rw [HS.out]; simp), if_neg (by rw [hr]; simp)]) (by decide))
        clear hr hz0 z1
        go_wp2_with fail
        go_at_call 13
        (with_reducible refine (ref_cright_is _ _ _ _ _ false HR.out _).mono ?_)
        rintro e w2 ⟨rfl, hb2⟩
        obtain ⟨hc2, hf2⟩ := bcell hb2
        have y0 := (hc2 w.heap.size 0 zz).trans q0
        have x0 := (hf2 w.heap.size 0 zz).trans p0
        have m0 := (hc2 b 0 bb).trans e0
        have y1 := (hc2 w.heap.size 1 zz).trans q1
        have x1 := (hf2 w.heap.size 1 zz).trans p1
        have m1 := (hc2 b 1 bb).trans e1
        have y2 := (hc2 w.heap.size 2 zz).trans q2
        have x2 := (hf2 w.heap.size 2 zz).trans p2
        have m2 := (hc2 b 2 bb).trans e2
        have y3 := (hc2 w.heap.size 3 zz).trans q3
        have x3 := (hf2 w.heap.size 3 zz).trans p3
        have m3 := (hc2 b 3 bb).trans e3
        have y4 := (hc2 w.heap.size 4 zz).trans q4
        have x4 := (hf2 w.heap.size 4 zz).trans p4
        have m4 := (hc2 b 4 bb).trans e4
        clear hc2 hf2
        go_wp2_with fail
        refine bodyPost_ret (v := .tuple #[cv 0 0 0 0 0, .int .i64 10]) (by simp [results, Try.results10, go_sem, y0, y1, y2, y3, y4]) rfl ⟨by rw [hp.out], ?_⟩
        repeat (first | exact hB.trans (hb2.mono (Nat.le_of_lt zz)) | refine Below.setCell ?_ (by simp) _)
      · have HR := Lib.hid hr
        have hp : Hid (cTup s = .tuple #[cv (rd s 1 3) (rd s 3 7) (rd s 7 9) (rd s 9 10) (rd s 10 11), .int .i64 0]) := Lib.hid (cTup_good s (by
          unfold cE
          rw [if_neg (by omega), if_neg (by omega), if_neg (by rw [HS.out]; simp), if_pos ⟨hz0, hr⟩]))
        clear hr hz0 z1
        go_wp2_with fail
        go_at_call 13
        (with_reducible refine (ref_cright_is _ _ _ _ _ true HR.out _).mono ?_)
        rintro e w2 ⟨rfl, hb2⟩
        obtain ⟨hc2, hf2⟩ := bcell hb2
        have y0 := (hc2 w.heap.size 0 zz).trans q0
        have x0 := (hf2 w.heap.size 0 zz).trans p0
        have m0 := (hc2 b 0 bb).trans e0
        have y1 := (hc2 w.heap.size 1 zz).trans q1
        have x1 := (hf2 w.heap.size 1 zz).trans p1
        have m1 := (hc2 b 1 bb).trans e1
        have y2 := (hc2 w.heap.size 2 zz).trans q2
        have x2 := (hf2 w.heap.size 2 zz).trans p2
        have m2 := (hc2 b 2 bb).trans e2
        have y3 := (hc2 w.heap.size 3 zz).trans q3
        have x3 := (hf2 w.heap.size 3 zz).trans p3
        have m3 := (hc2 b 3 bb).trans e3
        have y4 := (hc2 w.heap.size 4 zz).trans q4
        have x4 := (hf2 w.heap.size 4 zz).trans p4
        have m4 := (hc2 b 4 bb).trans e4
        clear hc2 hf2
        go_wp2_with fail
        refine bodyPost_ret (v := .tuple #[cv (rd s 1 3) (rd s 3 7) (rd s 7 9) (rd s 9 10) (rd s 10 11), .int .i64 0]) (by simp [results, Try.results10, go_sem, y0, y1, y2, y3, y4]) rfl ⟨by rw [hp.out], ?_⟩
        repeat (first | exact hB.trans (hb2.mono (Nat.le_of_lt zz)) | refine Below.setCell ?_ (by simp) _)
    · have zb : (gb s 0 != 0) = true := by simpa using hz0
      have hp : Hid (cTup s = .tuple #[cv 0 0 0 0 0, .int .i64 10]) := Lib.hid (cTup_bad s 10 (by
        unfold cE
        rw [if_neg (by omega), if_neg (by omega), if_neg (by rw [HS.out]; simp), if_neg (fun k => hz0 k.1)]) (by decide))
      clear hz0
      go_wp2_with fail
      refine bodyPost_ret (v := .tuple #[cv 0 0 0 0 0, .int .i64 10]) (by simp [results, Try.results10, go_sem, q0, q1, q2, q3, q4]) rfl ⟨by rw [hp.out], ?_⟩
      repeat (first | exact hB | refine Below.setCell ?_ (by simp) _)

theorem ref_cparse_any (s : ByteArray) (w : World) (hs : s.size ≤ maxLen) :
    Calls TryQ.prog 10 #[.string s] w fun e w' => e = .returned (cTup s) ∧ Below w.heap.size w w' := by
  by_cases h0 : s.size < 12
  · exact (ref_cparse_len s 7 (by decide) (by rw [if_pos h0]) w hs).mono fun e w' ⟨h1, h2⟩ => ⟨by rw [h1, cTup_bad s 7 (by rw [cE, if_pos h0]) (by decide)], h2⟩
  · by_cases h1 : 12 < s.size
    · exact (ref_cparse_len s 8 (by decide) (by rw [if_neg h0, if_pos h1]) w hs).mono fun e w' ⟨h2, h3⟩ => ⟨by rw [h2, cTup_bad s 8 (by rw [cE, if_neg h0, if_pos h1]) (by decide)], h3⟩
    · by_cases h2 : sumTo (gb s) 12 = 0
      · exact ref_cparse_mid s w (by omega) h2
      · exact (ref_cparse_sum s _ w (by omega) rfl h2).mono fun e w' ⟨h3, h4⟩ => ⟨by rw [h3, cTup_bad s 9 (by rw [cE, if_neg h0, if_neg h1, if_pos h2]) (by decide)], h4⟩
end Go.Proofs.Ytlgfogllkoabpaa.QMacP

/-
  Contracts of footwayref03.Wrap and footwayref03.Unwrap.
-/
namespace Go.Proofs.Ytlgfogllkoabpaa.QMacP
open Go.RowKit Go.Sort
set_option linter.unusedVariables false
set_option maxRecDepth 100000

theorem cBytes_size (r c b p a : Int) : (cBytes r c b p a).size = 12 := by
  rw [cBytes, strOfNums_size, List.length_append, c5_len, numL_len]
theorem src_bridge (b : Int) (h0 : 0 ≤ b) (h1 : b < 65536) : srcB (2199023321088 + b) = true := by
  have e1 : rightB (2199023321088 + b) = true := by simp [rightB]; omega
  have e2 : resB (2199023321088 + b) = false := by unfold resB; rw [Bool.and_eq_false_iff]; right; rw [decide_eq_false_iff_not]; omega
  have e3 : grpB (2199023321088 + b) = false := by unfold grpB; rw [bAt0, beq_eq_false_iff_ne]; omega
  unfold srcB classI
  rw [e1, e2, e3]; rfl
theorem wrap_ok (r c b p a : Int) (h : okC r c b p a = true) : okB 1652522221568 (2199023321088 + b) 32834 (cBytes r c b p a) = true := by
  obtain ⟨r0, r1, b0, b1, x0, x1, p0, p1, a0, a1⟩ := okC_yes h
  unfold okB
  rw [src_bridge b b0 b1, cBytes_size]
  decide
/-- The bytes of a config's frame. -/
def wBytes (r c b p a : Int) : ByteArray := pBytes 1652522221568 (2199023321088 + b) 32834 (cBytes r c b p a)

set_option maxHeartbeats 1000000 in
theorem ref_wrap (r c b p a : Int) (w : World) (h : okC r c b p a = true) :
    Calls TryQ.prog 16 #[cv r c b p a] w fun e w' => e = .returned (.string (wBytes r c b p a)) ∧ Below w.heap.size w w' := by
  obtain ⟨r0, r1, b0, b1, x0, x1, p0, p1, a0, a1⟩ := okC_yes h
  have H := Lib.hid h
  have HW := Lib.hid (wrap_ok r c b p a h)
  clear h
  go_enter TryQ.func16, Try.ntmps16
  go_wp2_with fail
  have k0 : (w.alloc (.cells #[.int .i64 r, .int .i64 c, .int .i64 b, .int .i64 p, .int .i64 a] 25)).cell? ⟨w.heap.size, 0, none⟩ = some (.int .i64 r) := by go_simp
  have k1 : (w.alloc (.cells #[.int .i64 r, .int .i64 c, .int .i64 b, .int .i64 p, .int .i64 a] 25)).cell? ⟨w.heap.size, 1, none⟩ = some (.int .i64 c) := by go_simp
  have k2 : (w.alloc (.cells #[.int .i64 r, .int .i64 c, .int .i64 b, .int .i64 p, .int .i64 a] 25)).cell? ⟨w.heap.size, 2, none⟩ = some (.int .i64 b) := by go_simp
  have k3 : (w.alloc (.cells #[.int .i64 r, .int .i64 c, .int .i64 b, .int .i64 p, .int .i64 a] 25)).cell? ⟨w.heap.size, 3, none⟩ = some (.int .i64 p) := by go_simp
  have k4 : (w.alloc (.cells #[.int .i64 r, .int .i64 c, .int .i64 b, .int .i64 p, .int .i64 a] 25)).cell? ⟨w.heap.size, 4, none⟩ = some (.int .i64 a) := by go_simp
  have B1 : Below w.heap.size w (w.alloc (.cells #[.int .i64 r, .int .i64 c, .int .i64 b, .int .i64 p, .int .i64 a] 25)) := (Below.refl _ _).alloc (Nat.le_refl _) _
  generalize w.alloc (.cells #[.int .i64 r, .int .i64 c, .int .i64 b, .int .i64 p, .int .i64 a] 25) = W at *
  have K0 := cell_regrown k0
  have K1 := cell_regrown k1
  have K2 := cell_regrown k2
  have K3 := cell_regrown k3
  have K4 := cell_regrown k4
  have n0 : ∀ q os, Calls TryQ.prog 26 #[.int .i64 b] (grow (redrawn W q) os) fun e w'' => e = .returned (.int .i64 (2199023321088 + b)) ∧ ∃ p : Regrown, w'' = grow (redrawn W p.d) p.os := fun q os => (ref_source b _ b0 (by omega)).mono fun e w' ⟨h1, h2⟩ => ⟨h1, ⟨⟨q, os⟩, h2.symm⟩⟩
  have n1 : ∀ q os, Calls TryQ.prog 15 #[cv r c b p a] (grow (redrawn W q) os) fun e w'' => e = .returned (.string (cBytes r c b p a)) ∧ ∃ p : Regrown, w'' = grow (redrawn W p.d) p.os := fun q os => Calls.regrown_of (ref_cprint _ _ _ _ _ _ H.out)
  have n2 : ∀ q os, Calls TryQ.prog 29 #[fv 1652522221568 (2199023321088 + b) 32834 (cBytes r c b p a)] (grow (redrawn W q) os) fun e w'' => e = .returned (.string (wBytes r c b p a)) ∧ ∃ p : Regrown, w'' = grow (redrawn W p.d) p.os := fun q os => Calls.regrown_of (ref_fprint _ _ _ _ _ HW.out)
  refine wp_region_quiet_below (by kernel_rfl) (by kernel_rfl) ?_
  repeat (first | go_big_quiet_step (first | with_reducible exact n0 _ _ | with_reducible exact n1 _ _ | with_reducible exact n2 _ _) | quiet_step (first | with_reducible exact n0 _ _ | with_reducible exact n1 _ _ | with_reducible exact n2 _ _))
  refine wpQuiet_nil ?_
  intro _ hw'
  obtain ⟨⟨dq, osq⟩, hw''⟩ := hw'
  subst hw''
  have hb7 := below_regrown W dq osq
  have B2 : Below w.heap.size w (grow (redrawn W dq) osq) := B1.trans (hb7.mono B1.size)
  clear K0 K1 K2 K3 K4 k0 k1 k2 k3 k4 n0 n1 n2 hb7
  generalize grow (redrawn W dq) osq = W7 at *
  go_wp2_with fail
  go_ret
  exact ⟨rfl, B2⟩

/-- What Unwrap tells: its error. -/
def uE (s : ByteArray) : Int := if pE s ≠ 0 then pE s else if ¬ (adr s 0 = 1652522221568 ∧ typ s = 32834) then 10 else if cE (dat s) ≠ 0 then cE (dat s) else if adr s 6 = 2199023321088 + rd (dat s) 7 9 then 0 else 10
def uF (s : ByteArray) (j k : Nat) : Int := if uE s = 0 then rd (dat s) j k else 0
def uTup (s : ByteArray) : Value := .tuple #[cv (uF s 1 3) (uF s 3 7) (uF s 7 9) (uF s 9 10) (uF s 10 11), .int .i64 (uE s)]
theorem uTup_bad (s : ByteArray) (n : Int) (h : uE s = n) (hn : n ≠ 0) : uTup s = .tuple #[cv 0 0 0 0 0, .int .i64 n] := by
  subst h; simp only [uTup, uF, if_neg hn]
theorem uTup_good (s : ByteArray) (h : uE s = 0) : uTup s = .tuple #[cv (rd (dat s) 1 3) (rd (dat s) 3 7) (rd (dat s) 7 9) (rd (dat s) 9 10) (rd (dat s) 10 11), .int .i64 0] := by
  simp only [uTup, uF, h, if_true]
theorem ref_cparse_good (s : ByteArray) (w : World) (hs : s.size ≤ maxLen) (h : cE s = 0) :
    Calls TryQ.prog 10 #[.string s] w fun e w' => e = .returned (.tuple #[cv (rd s 1 3) (rd s 3 7) (rd s 7 9) (rd s 9 10) (rd s 10 11), .int .i64 0]) ∧ Below w.heap.size w w' :=
  (ref_cparse_any s w hs).mono fun e w' ⟨h1, h2⟩ => ⟨by rw [h1, cTup_good s h], h2⟩
theorem ref_cparse_bad (s : ByteArray) (n : Int) (w : World) (hs : s.size ≤ maxLen) (h : cE s = n) (hn : n ≠ 0) :
    Calls TryQ.prog 10 #[.string s] w fun e w' => e = .returned (.tuple #[cv 0 0 0 0 0, .int .i64 n]) ∧ Below w.heap.size w w' :=
  (ref_cparse_any s w hs).mono fun e w' ⟨h1, h2⟩ => ⟨by rw [h1, cTup_bad s n h hn], h2⟩
end Go.Proofs.Ytlgfogllkoabpaa.QMacP

/-
  Plain facts of layer 3: what is told is read as it was, and what is read is told as it was.
-/
namespace Go.Proofs.Ytlgfogllkoabpaa.QMacP
open Go.RowKit
set_option linter.unusedVariables false
set_option maxRecDepth 100000

theorem c5_list (r c b p a : Int) : c5 r c b p a = [0, r / 256 % 256, r % 256, c / 256 / 256 / 256 % 256, c / 256 / 256 % 256, c / 256 % 256, c % 256, b / 256 % 256, b % 256, p % 256, a % 256] := by
  simp [c5, c4, c3, c2, c1, numL]
theorem numL_1 (n : Int) : numL n 1 = [n % 256] := by simp [numL]
theorem sumTo_congr (f g : Nat → Int) (n : Nat) (h : ∀ i, i < n → f i = g i) : sumTo f n = sumTo g n := by
  induction n with
  | zero => rfl
  | succ n ih => rw [sumTo, sumTo, ih (fun i hi => h i (by omega)), h n (by omega)]
theorem rd_gb (s : ByteArray) (j k : Nat) (hk : k ≤ s.size) : rd s j k = ofTo (fun i => gb s (j + i)) (k - j) := by
  unfold rd
  have key : ∀ n, j + n ≤ k → ofTo (gb (s.extract j k)) n = ofTo (fun i => gb s (j + i)) n := by
    intro n
    induction n with
    | zero => intro _; rfl
    | succ n ih => intro h; rw [ofTo, ofTo, ih (by omega), gb_extract s j k n hk (by omega)]
  rcases Nat.lt_or_ge k j with h | h
  · rw [show k - j = 0 by omega]; rfl
  · exact key _ (by omega)

theorem cE_zero (s : ByteArray) (h : cE s = 0) : s.size = 12 ∧ sumTo (gb s) 12 = 0 ∧ gb s 0 = 0 ∧ okC (rd s 1 3) (rd s 3 7) (rd s 7 9) (rd s 9 10) (rd s 10 11) = true := by
  unfold cE at h
  by_cases a : s.size < 12
  · rw [if_pos a] at h; cases h
  · rw [if_neg a] at h
    by_cases b : 12 < s.size
    · rw [if_pos b] at h; cases h
    · rw [if_neg b] at h
      by_cases c : sumTo (gb s) 12 ≠ 0
      · rw [if_pos c] at h; cases h
      · rw [if_neg c] at h
        by_cases d : gb s 0 = 0 ∧ okC (rd s 1 3) (rd s 3 7) (rd s 7 9) (rd s 9 10) (rd s 10 11) = true
        · exact ⟨by omega, Decidable.of_not_not c, d.1, d.2⟩
        · rw [if_neg d] at h; cases h

/-- A config's bytes, one by one. -/
theorem cBytes_gb (r c b p a : Int) (k : Nat) (hk : k < 11) : gb (cBytes r c b p a) k = (c5 r c b p a).getD k 0 := by
  unfold cBytes
  have hg : (c5 r c b p a ++ numL (chk r c b p a) 1).getD k 0 = (c5 r c b p a).getD k 0 := by
    rw [List.getD_eq_getElem?_getD, List.getElem?_append_left (by rw [c5_len]; exact hk), ← List.getD_eq_getElem?_getD]
  rw [gb_nums _ k (by rw [List.length_append, c5_len]; omega), hg]
  rw [hg, c5_list]
  obtain h | h | h | h | h | h | h | h | h | h | h : k = 0 ∨ k = 1 ∨ k = 2 ∨ k = 3 ∨ k = 4 ∨ k = 5 ∨ k = 6 ∨ k = 7 ∨ k = 8 ∨ k = 9 ∨ k = 10 := by omega
  all_goals (subst h; simp; try omega)
theorem chk_bd (r c b p a : Int) : 0 ≤ chk r c b p a ∧ chk r c b p a < 256 := by unfold chk; omega
theorem cBytes_11 (r c b p a : Int) : gb (cBytes r c b p a) 11 = chk r c b p a := by
  have hb := chk_bd r c b p a
  unfold cBytes
  rw [numL_1, Int.emod_eq_of_lt hb.1 hb.2]
  have hg : (c5 r c b p a ++ [chk r c b p a]).getD 11 0 = chk r c b p a := by
    rw [List.getD_eq_getElem?_getD, List.getElem?_append_right (by rw [c5_len]; exact Nat.le_refl _), c5_len]; rfl
  rw [gb_nums _ 11 (by rw [List.length_append, c5_len]; exact Nat.lt_succ_self 11) (by rw [hg]; exact hb), hg]
theorem c5_sum (r c b p a : Int) : sumTo (gb (strOfNums (c5 r c b p a))) 11 = sumTo (gb (cBytes r c b p a)) 11 := by
  refine sumTo_congr _ _ 11 fun i hi => ?_
  rw [cBytes_gb _ _ _ _ _ i hi, gb_nums _ i (by rw [c5_len]; exact hi)]
  rw [c5_list]
  obtain h | h | h | h | h | h | h | h | h | h | h : i = 0 ∨ i = 1 ∨ i = 2 ∨ i = 3 ∨ i = 4 ∨ i = 5 ∨ i = 6 ∨ i = 7 ∨ i = 8 ∨ i = 9 ∨ i = 10 := by omega
  all_goals (subst h; simp; try omega)
/-- What is told is read as it was. -/
theorem cparse_print (r c b p a : Int) (h : okC r c b p a = true) : cTup (cBytes r c b p a) = .tuple #[cv r c b p a, .int .i64 0] := by
  obtain ⟨r0, r1, b0, b1, x0, x1, p0, p1, a0, a1⟩ := okC_yes h
  have hz := cBytes_size r c b p a
  have g : ∀ k, k < 11 → gb (cBytes r c b p a) k = (c5 r c b p a).getD k 0 := cBytes_gb r c b p a
  have q0 := g 0 (by decide); have q1 := g 1 (by decide); have q2 := g 2 (by decide); have q3 := g 3 (by decide); have q4 := g 4 (by decide); have q5 := g 5 (by decide)
  have q6 := g 6 (by decide); have q7 := g 7 (by decide); have q8 := g 8 (by decide); have q9 := g 9 (by decide); have q10 := g 10 (by decide)
  rw [c5_list] at q0 q1 q2 q3 q4 q5 q6 q7 q8 q9 q10
  simp at q0 q1 q2 q3 q4 q5 q6 q7 q8 q9 q10
  have t1 : rd (cBytes r c b p a) 1 3 = r := by
    rw [rd_gb _ _ _ (by omega)]
    show 256 * (256 * 0 + gb (cBytes r c b p a) 1) + gb (cBytes r c b p a) 2 = r
    rw [q1, q2]; omega
  have t2 : rd (cBytes r c b p a) 3 7 = c := by
    rw [rd_gb _ _ _ (by omega)]
    show 256 * (256 * (256 * (256 * 0 + gb (cBytes r c b p a) 3) + gb (cBytes r c b p a) 4) + gb (cBytes r c b p a) 5) + gb (cBytes r c b p a) 6 = c
    rw [q3, q4, q5, q6]; omega
  have t3 : rd (cBytes r c b p a) 7 9 = b := by
    rw [rd_gb _ _ _ (by omega)]
    show 256 * (256 * 0 + gb (cBytes r c b p a) 7) + gb (cBytes r c b p a) 8 = b
    rw [q7, q8]; omega
  have t4 : rd (cBytes r c b p a) 9 10 = p := by
    rw [rd_gb _ _ _ (by omega)]
    show 256 * 0 + gb (cBytes r c b p a) 9 = p
    rw [q9]; omega
  have t5 : rd (cBytes r c b p a) 10 11 = a := by
    rw [rd_gb _ _ _ (by omega)]
    show 256 * 0 + gb (cBytes r c b p a) 10 = a
    rw [q10]; omega
  have hs : sumTo (gb (cBytes r c b p a)) 12 = 0 := by
    rw [sumTo, cBytes_11]
    unfold chk
    rw [c5_sum]
    have := sumTo_bd (gb (cBytes r c b p a)) 11
    omega
  have hE : cE (cBytes r c b p a) = 0 := by
    unfold cE
    rw [if_neg (by omega), if_neg (by omega), if_neg (by rw [hs]; simp), t1, t2, t3, t4, t5, if_pos ⟨q0, h⟩]
  rw [cTup_good _ hE, t1, t2, t3, t4, t5]
/-- What is read may be, and is told as it was. -/
theorem cprint_parse (s : ByteArray) (h : cE s = 0) : cBytes (rd s 1 3) (rd s 3 7) (rd s 7 9) (rd s 9 10) (rd s 10 11) = s := by
  obtain ⟨hz, hs, h0, hok⟩ := cE_zero s h
  have t1 : rd s 1 3 = 256 * (256 * 0 + gb s 1) + gb s 2 := by rw [rd_gb _ _ _ (by omega)]; rfl
  have t2 : rd s 3 7 = 256 * (256 * (256 * (256 * 0 + gb s 3) + gb s 4) + gb s 5) + gb s 6 := by rw [rd_gb _ _ _ (by omega)]; rfl
  have t3 : rd s 7 9 = 256 * (256 * 0 + gb s 7) + gb s 8 := by rw [rd_gb _ _ _ (by omega)]; rfl
  have t4 : rd s 9 10 = 256 * 0 + gb s 9 := by rw [rd_gb _ _ _ (by omega)]; rfl
  have t5 : rd s 10 11 = 256 * 0 + gb s 10 := by rw [rd_gb _ _ _ (by omega)]; rfl
  have b1 := gb_bd s 1; have b2 := gb_bd s 2; have b3 := gb_bd s 3; have b4 := gb_bd s 4; have b5 := gb_bd s 5; have b6 := gb_bd s 6
  have b7 := gb_bd s 7; have b8 := gb_bd s 8; have b9 := gb_bd s 9; have b10 := gb_bd s 10; have b11 := gb_bd s 11
  generalize rd s 1 3 = r at *
  generalize rd s 3 7 = c at *
  generalize rd s 7 9 = b at *
  generalize rd s 9 10 = p at *
  generalize rd s 10 11 = a at *
  have hc : ∀ k, k < 11 → gb s k = (c5 r c b p a).getD k 0 := by
    intro k hk
    rw [c5_list]
    obtain h | h | h | h | h | h | h | h | h | h | h : k = 0 ∨ k = 1 ∨ k = 2 ∨ k = 3 ∨ k = 4 ∨ k = 5 ∨ k = 6 ∨ k = 7 ∨ k = 8 ∨ k = 9 ∨ k = 10 := by omega
    all_goals (subst h; simp; try omega)
  have hsum : sumTo (gb (cBytes r c b p a)) 11 = sumTo (gb s) 11 := sumTo_congr _ _ 11 fun i hi => by rw [cBytes_gb _ _ _ _ _ i hi, hc i hi]
  have h11 : gb s 11 = chk r c b p a := by
    unfold chk
    rw [c5_sum, hsum]
    rw [sumTo] at hs
    have := sumTo_bd (gb s) 11
    omega
  have hl : (c5 r c b p a ++ numL (chk r c b p a) 1).length = s.size := by rw [List.length_append, c5_len, numL_len, hz]
  refine str_ext s _ hl fun k hk => ?_
  rcases Nat.lt_or_ge k 11 with hk1 | hk1
  · rw [hc k hk1, List.getD_eq_getElem?_getD, List.getD_eq_getElem?_getD, List.getElem?_append_left (by rw [c5_len]; exact hk1)]
  · obtain rfl : k = 11 := by omega
    have hb := chk_bd r c b p a
    rw [h11, numL_1, Int.emod_eq_of_lt hb.1 hb.2, List.getD_eq_getElem?_getD, List.getElem?_append_right (by rw [c5_len]; exact Nat.le_refl _), c5_len]; rfl
theorem cBytes_ok (r c b p a : Int) (h : okC r c b p a = true) : cE (cBytes r c b p a) = 0 := by
  have h1 := cparse_print r c b p a h
  unfold cTup at h1
  simp only [Value.tuple.injEq] at h1
  have h2 := congrArg (fun xs : Array Value => xs[1]?) h1
  simpa using h2
end Go.Proofs.Ytlgfogllkoabpaa.QMacP

/-
  Plain facts of layer 3: frames of configs; one byte that is another one.
-/
namespace Go.Proofs.Ytlgfogllkoabpaa.QMacP
open Go.RowKit
set_option linter.unusedVariables false
set_option maxRecDepth 100000

theorem cBytes_rd (r c b p a : Int) (h : okC r c b p a = true) : rd (cBytes r c b p a) 1 3 = r ∧ rd (cBytes r c b p a) 3 7 = c ∧ rd (cBytes r c b p a) 7 9 = b ∧ rd (cBytes r c b p a) 9 10 = p ∧ rd (cBytes r c b p a) 10 11 = a := by
  have h1 := cparse_print r c b p a h
  rw [cTup_good _ (cBytes_ok r c b p a h)] at h1
  simp only [Value.tuple.injEq] at h1
  have h2 := congrArg (fun xs : Array Value => xs[0]?) h1
  simpa using h2
/-- What is told in a frame is read as it was. -/
theorem unwrap_wrap (r c b p a : Int) (h : okC r c b p a = true) : uE (wBytes r c b p a) = 0 ∧ uTup (wBytes r c b p a) = .tuple #[cv r c b p a, .int .i64 0] := by
  obtain ⟨r0, r1, b0, b1, x0, x1, p0, p1, a0, a1⟩ := okC_yes h
  obtain ⟨t1, t2, t3, t4, t5⟩ := cBytes_rd r c b p a h
  have hw := wrap_ok r c b p a h
  have e1 : pE (wBytes r c b p a) = 0 := pE_p _ _ _ _ hw
  have e2 : adr (wBytes r c b p a) 0 = 1652522221568 := adr_0 _ _ _ _ (by decide) (by decide)
  have e3 : adr (wBytes r c b p a) 6 = 2199023321088 + b := adr_6 _ _ _ _ (by omega) (by omega)
  have e4 : typ (wBytes r c b p a) = 32834 := typ_p _ _ _ _ (by decide) (by decide)
  have e5 : dat (wBytes r c b p a) = cBytes r c b p a := dat_p _ _ _ _
  have hE : uE (wBytes r c b p a) = 0 := by
    unfold uE
    rw [e1, e2, e3, e4, e5, cBytes_ok r c b p a h, t3]
    simp
  exact ⟨hE, by rw [uTup_good _ hE, e5, t1, t2, t3, t4, t5]⟩
theorem uE_zero (s : ByteArray) (h : uE s = 0) : pE s = 0 ∧ adr s 0 = 1652522221568 ∧ typ s = 32834 ∧ cE (dat s) = 0 ∧ adr s 6 = 2199023321088 + rd (dat s) 7 9 := by
  unfold uE at h
  by_cases a : pE s ≠ 0
  · rw [if_pos a] at h; exact absurd h a
  · rw [if_neg a] at h
    by_cases b : ¬ (adr s 0 = 1652522221568 ∧ typ s = 32834)
    · rw [if_pos b] at h; cases h
    · rw [if_neg b] at h
      by_cases c : cE (dat s) ≠ 0
      · rw [if_pos c] at h; exact absurd h c
      · rw [if_neg c] at h
        by_cases d : adr s 6 = 2199023321088 + rd (dat s) 7 9
        · have b' := Decidable.of_not_not b
          exact ⟨Decidable.of_not_not a, b'.1, b'.2, Decidable.of_not_not c, d⟩
        · rw [if_neg d] at h; cases h
/-- What is read may be, and is told as it was. -/
theorem wrap_unwrap (s : ByteArray) (h : uE s = 0) : okC (rd (dat s) 1 3) (rd (dat s) 3 7) (rd (dat s) 7 9) (rd (dat s) 9 10) (rd (dat s) 10 11) = true ∧ wBytes (rd (dat s) 1 3) (rd (dat s) 3 7) (rd (dat s) 7 9) (rd (dat s) 9 10) (rd (dat s) 10 11) = s := by
  obtain ⟨h1, h2, h3, h4, h5⟩ := uE_zero s h
  refine ⟨(cE_zero (dat s) h4).2.2.2, ?_⟩
  have := print_parse s h1
  rw [h2, h3, h5] at this
  unfold wBytes
  rw [cprint_parse (dat s) h4]
  exact this

/-- One byte that is another one turns the sum. -/
theorem sum_turn (f g : Nat → Int) (j : Nat) (h : ∀ i, i ≠ j → f i = g i) : ∀ n, (n ≤ j → sumTo f n = sumTo g n) ∧ (j < n → (sumTo f n - sumTo g n - (f j - g j)) % 256 = 0) := by
  intro n
  induction n with
  | zero => exact ⟨fun _ => rfl, fun k => by omega⟩
  | succ n ih =>
    refine ⟨fun k => ?_, fun k => ?_⟩
    · rw [sumTo, sumTo, ih.1 (by omega), h n (by omega)]
    · rw [sumTo, sumTo]
      rcases Nat.lt_or_ge j n with q | q
      · have := ih.2 q
        rw [h n (by omega)]
        omega
      · obtain rfl : j = n := by omega
        rw [ih.1 (Nat.le_refl _)]
        omega
theorem turned (s t : ByteArray) (j : Nat) (hs : s.size = 12) (ht : t.size = 12) (hj : j < 12) (h : ∀ i, i ≠ j → gb t i = gb s i) (hsum : sumTo (gb s) 12 = 0) (hne : gb t j ≠ gb s j) : cE t = 9 := by
  have h1 := (sum_turn (gb t) (gb s) j h 12).2 hj
  have b1 := gb_bd t j
  have b2 := gb_bd s j
  have b3 := sumTo_bd (gb t) 12
  have : sumTo (gb t) 12 ≠ 0 := by
    intro k
    rw [k, hsum] at h1
    omega
  unfold cE
  rw [if_neg (by omega), if_neg (by omega), if_pos this]
end Go.Proofs.Ytlgfogllkoabpaa.QMacP
