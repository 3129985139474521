/-
  Contracts of footwayref02's Right and Print.
-/
import Derived.Test.YtjmmdlnhallkpaaMacR
import Derived.Test.YtjmmdlnhallkpaaFrameG
import Derived.Test.YtjmmdlnhallkpaaRegMono
namespace Go.Proofs.Ytjmmdlnhallkpaa.MacP
open Go.RowKit
set_option linter.unusedVariables false

theorem ref_right_is (a : Int) (b : Bool) (h : rightB a = b) (w : World) :
    Calls Try.prog 14 #[.int .i64 a] w fun e w' => e = .returned (.bool b) ∧ w = w' := by
  cases b
  · exact ref_right_no a w (rightB_no h)
  · exact ref_right_yes a w (rightB_yes h).1 (rightB_yes h).2
theorem ref_class_is (a : Int) (h : rightB a = true) (w : World) :
    Calls Try.prog 16 #[.int .i64 a] w fun e w' => e = .returned (.int .i64 (classI a)) ∧ w = w' :=
  ref_class a w (rightB_yes h).1 (rightB_yes h).2

set_option maxHeartbeats 1000000 in
theorem ref_fright_any (d s t : Int) (x : ByteArray) (w : World) (hx : x.size ≤ maxLen) :
    Calls Try.prog 30 #[fv d s t x] w fun e w' => e = .returned (.bool (okB d s t x)) ∧ Below w.heap.size w w' := by
  unfold maxLen at hx
  cases h1 : rightB d
  · have hs : Hid (okB d s t x = false) := Lib.hid (by rw [okB, h1]; rfl)
    have H1 := Lib.hid h1
    clear h1
    go_enter Try.func30, Try.ntmps30
    go_wp2_with (go_at_call 14; refine (ref_right_is _ _ H1.out _).mono ?_; rintro e w' ⟨rfl, rfl⟩)
    go_ret
    exact ⟨by rw [hs.out]; rfl, (Below.refl _ _).alloc (Nat.le_refl _) _⟩
  · have H1 := Lib.hid h1
    cases h2 : rightB s
    · have hs : Hid (okB d s t x = false) := Lib.hid (by rw [okB, h1, srcB, h2]; rfl)
      have H2 := Lib.hid h2
      clear h1 h2
      go_enter Try.func30, Try.ntmps30
      go_wp2_with (first | (go_at_call 14; (with_reducible refine (ref_right_is d _ H1.out _).mono ?_); rintro e w' ⟨rfl, rfl⟩) | (go_at_call 14; (with_reducible refine (ref_right_is s _ H2.out _).mono ?_); rintro e w' ⟨rfl, rfl⟩))
      go_ret
      exact ⟨by rw [hs.out]; rfl, (Below.refl _ _).alloc (Nat.le_refl _) _⟩
    · have H2 := Lib.hid h2
      cases h3 : (classI s == 0)
      · have hs : Hid (okB d s t x = false) := Lib.hid (by rw [okB, h1, srcB, h2, h3]; rfl)
        clear h1 h2
        go_enter Try.func30, Try.ntmps30
        go_wp2_with (first | (go_at_call 14; (with_reducible refine (ref_right_is d _ H1.out _).mono ?_); rintro e w' ⟨rfl, rfl⟩) | (go_at_call 14; (with_reducible refine (ref_right_is s _ H2.out _).mono ?_); rintro e w' ⟨rfl, rfl⟩) | (go_at_call 16; (with_reducible refine (ref_class_is s H2.out _).mono ?_); rintro e w' ⟨rfl, rfl⟩))
        go_ret
        exact ⟨by rw [hs.out]; rfl, (Below.refl _ _).alloc (Nat.le_refl _) _⟩
      · by_cases h4 : 0 ≤ t
        · by_cases h5 : t < 65536
          · have hs : Hid (okB d s t x = decide ((x.size : Int) ≤ 100)) := Lib.hid (by rw [okB, h1, srcB, h2, h3]; simp [h4, show t ≤ 65535 by omega]; omega)
            clear h1 h2
            go_enter Try.func30, Try.ntmps30
            go_wp2_with (first | (go_at_call 14; (with_reducible refine (ref_right_is d _ H1.out _).mono ?_); rintro e w' ⟨rfl, rfl⟩) | (go_at_call 14; (with_reducible refine (ref_right_is s _ H2.out _).mono ?_); rintro e w' ⟨rfl, rfl⟩) | (go_at_call 16; (with_reducible refine (ref_class_is s H2.out _).mono ?_); rintro e w' ⟨rfl, rfl⟩))
            go_ret
            exact ⟨by rw [hs.out]; rfl, (Below.refl _ _).alloc (Nat.le_refl _) _⟩
          · have hs : Hid (okB d s t x = false) := Lib.hid (by rw [okB]; simp [show ¬ t ≤ 65535 by omega])
            have h5' : decide (t < 65536) = false := by simpa using h5
            clear h1 h2 h5
            go_enter Try.func30, Try.ntmps30
            go_wp2_with (first | (go_at_call 14; (with_reducible refine (ref_right_is d _ H1.out _).mono ?_); rintro e w' ⟨rfl, rfl⟩) | (go_at_call 14; (with_reducible refine (ref_right_is s _ H2.out _).mono ?_); rintro e w' ⟨rfl, rfl⟩) | (go_at_call 16; (with_reducible refine (ref_class_is s H2.out _).mono ?_); rintro e w' ⟨rfl, rfl⟩))
            go_ret
            exact ⟨by rw [hs.out]; rfl, (Below.refl _ _).alloc (Nat.le_refl _) _⟩
        · have hs : Hid (okB d s t x = false) := Lib.hid (by rw [okB]; simp [h4])
          have h4' : decide (0 ≤ t) = false := by simpa using h4
          clear h1 h2 h4
          go_enter Try.func30, Try.ntmps30
          go_wp2_with (first | (go_at_call 14; (with_reducible refine (ref_right_is d _ H1.out _).mono ?_); rintro e w' ⟨rfl, rfl⟩) | (go_at_call 14; (with_reducible refine (ref_right_is s _ H2.out _).mono ?_); rintro e w' ⟨rfl, rfl⟩) | (go_at_call 16; (with_reducible refine (ref_class_is s H2.out _).mono ?_); rintro e w' ⟨rfl, rfl⟩))
          go_ret
          exact ⟨by rw [hs.out]; rfl, (Below.refl _ _).alloc (Nat.le_refl _) _⟩

theorem str_two (w : World) (m n : Int) : (convert 47 9 (.slice (some ⟨w.heap.size, 0, none⟩) 2 2)).run Try.prog (w.alloc (.cells #[.int .u8 m, .int .u8 n] 5)) = .ok (.string (strOfNums [m, n])) (w.alloc (.cells #[.int .u8 m, .int .u8 n] 5)) :=
  run_convert_bytes_arg _ 47 5 Try.underlying47 Try.underlying5 w.heap.size 0 2 2 [m, n] rfl (by
    intro i hi
    match i, hi with
    | 0, _ => go_simp
    | 1, _ => go_simp) 9 Try.underlying9
theorem str_cat (xs ys : List Int) (w : World) (h : xs.length + ys.length ≤ 1000) : (Op.stringOp .add (strOfNums xs) (strOfNums ys)).run Try.prog w = .ok (.string (strOfNums (xs ++ ys))) w := str_add xs ys w h

/-- What the operations of Print's statement yield. -/
def fpVal (B : Nat) (d s t : Int) (x : ByteArray) : Nat → Value
  | 0 => .pointer (some ⟨B, 0, none⟩)
  | 1 => .int .i64 d
  | 2 => .string (strOfNums (byteNums d))
  | 3 => .pointer (some ⟨B, 1, none⟩)
  | 4 => .int .i64 s
  | 5 => .string (strOfNums (byteNums s))
  | 6 => .string (strOfNums (byteNums d ++ byteNums s))
  | 7 => .pointer (some ⟨B, 2, none⟩)
  | 8 => .int .i64 t
  | 9 => .int .i64 (t / 256)
  | 10 => .int .u8 (t / 256)
  | 11 => .pointer (some ⟨B, 2, none⟩)
  | 12 => .int .i64 t
  | 13 => .int .i64 (t % 256)
  | 14 => .int .u8 (t % 256)
  | 16 => .string (strOfNums [t / 256, t % 256])
  | 17 => .string (strOfNums (byteNums d ++ (byteNums s ++ [t / 256, t % 256])))
  | 18 => .pointer (some ⟨B, 3, none⟩)
  | 19 => .string x
  | _ => .string (pBytes d s t x)
def fpRow (t : Int) (v : Value) (w : World) : Prop := ∃ b, v = .slice (some ⟨b, 0, none⟩) 2 2 ∧ b < w.heap.size ∧ w.cell? ⟨b, 0, none⟩ = some (.int .u8 (t / 256)) ∧ w.cell? ⟨b, 1, none⟩ = some (.int .u8 (t % 256))
def fpSp (B : Nat) (d s t : Int) (x : ByteArray) (i : Nat) (v : Value) (w : World) : Prop := if i = 15 then fpRow t v w else v = fpVal B d s t x i
theorem fpSp_mono (B : Nat) (d s t : Int) (x : ByteArray) (i : Nat) (v : Value) (w w' : World) (h : fpSp B d s t x i v w) (hb : Below w.heap.size w w') : fpSp B d s t x i v w' := by
  unfold fpSp at *
  split
  · rw [if_pos (by assumption)] at h
    obtain ⟨b, rfl, hl, h0, h1⟩ := h
    exact ⟨b, rfl, Nat.lt_of_lt_of_le hl hb.size, (hb.cell (p := ⟨b, 0, none⟩) hl).trans h0, (hb.cell (p := ⟨b, 1, none⟩) hl).trans h1⟩
  · rw [if_neg (by assumption)] at h; exact h
def fpSlot (i : Nat) : Nat := if i = 21 then 2 else i + 3

set_option maxRecDepth 100000 in
set_option maxHeartbeats 1000000 in
theorem ref_fprint (d s t : Int) (x : ByteArray) (w : World) (h : okB d s t x = true) :
    Calls Try.prog 32 #[fv d s t x] w fun e w' => e = .returned (.string (pBytes d s t x)) ∧ Below w.heap.size w w' := by
  obtain ⟨hd, hs, t0, t1, hx⟩ := okB_yes h
  obtain ⟨d0, d1⟩ := rightB_yes hd
  obtain ⟨s0, s1⟩ := rightB_yes (srcB_right hs)
  have hp := PB_box w d s t x
  have q1 : ∀ w, (Op.stringOp .add (strOfNums (byteNums d)) (strOfNums (byteNums s))).run Try.prog w = .ok (.string (strOfNums (byteNums d ++ byteNums s))) w := fun w => str_add _ _ w (by simp [byteNums])
  have q2 : ∀ w, (Op.stringOp .add (strOfNums (byteNums d ++ byteNums s)) (strOfNums [t / 256, t % 256])).run Try.prog w = .ok (.string (strOfNums (byteNums d ++ (byteNums s ++ [t / 256, t % 256])))) w := fun w => by
    have := str_add (byteNums d ++ byteNums s) [t / 256, t % 256] w (by simp [byteNums])
    rw [this, List.append_assoc]
  have q3 : ∀ w, (Op.stringOp .add (strOfNums (byteNums d ++ (byteNums s ++ [t / 256, t % 256]))) x).run Try.prog w = .ok (.string (pBytes d s t x)) w := fun w => by
    have := str_add (byteNums d ++ (byteNums s ++ [t / 256, t % 256])) (nums x) w (by have := str_size x; simp [byteNums, nums] at this ⊢; omega)
    rw [strOfNums_nums] at this
    rw [this, pB_list]; simp only [List.append_assoc]
  have v1 : t.tdiv 256 = t / 256 := Int.tdiv_eq_ediv_of_nonneg t0
  have v2 : t.tmod 256 = t % 256 := Int.tmod_eq_emod_of_nonneg t0
  have v3 : IntKind.i64.wrap (t / 256) = t / 256 := IntWalk.i64_in _ (by omega)
  have v4 : IntKind.i64.wrap (t % 256) = t % 256 := IntWalk.i64_in _ (by omega)
  have v5 : IntKind.u8.wrap (t / 256) = t / 256 := wrap_u8 _ (by omega)
  have v6 : IntKind.u8.wrap (t % 256) = t % 256 := wrap_u8 _ (by omega)
  clear h hd hs
  go_enter Try.func32, Try.ntmps32
  go_wp2_with fail
  generalize w.alloc (.cells #[.int .i64 d, .int .i64 s, .int .i64 t, .string x] 38) = W at *
  obtain ⟨c0, c1, c2, c3, lt, bel⟩ := hp
  refine wp_region_ops (by kernel_rfl) fpSlot (by kernel_rfl) (by kernel_rfl) (fpSp w.heap.size d s t x) (fpSp_mono w.heap.size d s t x) ?_ ?_
  · refine ⟨?_, ?_, ?_, ?_, ?_, ?_, ?_, ?_, ?_, ?_, ?_, ?_, ?_, ?_, ?_, ?_, ?_, ?_, ?_, ?_, ?_, ?_, trivial⟩
    · intro a w1 K hb hdep hk hK
      have h1 : a.tmps.getD 1 undef = .pointer (some ⟨w.heap.size, 0, none⟩) := hk 1 (by kernel_rfl)
      go_simp
      exact hK _ _ rfl (Below.refl _ _)
    · intro a w1 K hb hdep hk hK
      have h0 : a.tmps.getD 3 undef = .pointer (some ⟨w.heap.size, 0, none⟩) := hdep ⟨0, .data⟩ (by simp) rfl
      have kc : w1.cell? ⟨w.heap.size, 0, none⟩ = some (.int .i64 d) := (hb.cell (p := ⟨w.heap.size, 0, none⟩) lt).trans c0
      go_simp
      exact hK _ _ rfl (Below.refl _ _)
    · intro a w1 K hb hdep hk hK
      have h1 : a.tmps.getD 4 undef = .int .i64 d := hdep ⟨1, .data⟩ (by simp) rfl
      go_simp
      refine (ref_bytes _ _ d0 d1).mono ?_
      rintro e w2 ⟨rfl, hb2⟩
      exact hK _ _ rfl hb2
    · intro a w1 K hb hdep hk hK
      have h1 : a.tmps.getD 1 undef = .pointer (some ⟨w.heap.size, 0, none⟩) := hk 1 (by kernel_rfl)
      go_simp
      exact hK _ _ rfl (Below.refl _ _)
    · intro a w1 K hb hdep hk hK
      have h3 : a.tmps.getD 6 undef = .pointer (some ⟨w.heap.size, 1, none⟩) := hdep ⟨3, .data⟩ (by simp) rfl
      have kc : w1.cell? ⟨w.heap.size, 1, none⟩ = some (.int .i64 s) := (hb.cell (p := ⟨w.heap.size, 1, none⟩) lt).trans c1
      go_simp
      exact hK _ _ rfl (Below.refl _ _)
    · intro a w1 K hb hdep hk hK
      have h4 : a.tmps.getD 7 undef = .int .i64 s := hdep ⟨4, .data⟩ (by simp) rfl
      go_simp
      refine (ref_bytes _ _ s0 s1).mono ?_
      rintro e w2 ⟨rfl, hb2⟩
      exact hK _ _ rfl hb2
    · intro a w1 K hb hdep hk hK
      have h2 : a.tmps.getD 5 undef = .string (strOfNums (byteNums d)) := hdep ⟨2, .data⟩ (by simp) rfl
      have h5 : a.tmps.getD 8 undef = .string (strOfNums (byteNums s)) := hdep ⟨5, .data⟩ (by simp) rfl
      go_simp
      exact hK _ _ rfl (Below.refl _ _)
    · intro a w1 K hb hdep hk hK
      have h1 : a.tmps.getD 1 undef = .pointer (some ⟨w.heap.size, 0, none⟩) := hk 1 (by kernel_rfl)
      go_simp
      exact hK _ _ rfl (Below.refl _ _)
    · intro a w1 K hb hdep hk hK
      have h7 : a.tmps.getD 10 undef = .pointer (some ⟨w.heap.size, 2, none⟩) := hdep ⟨7, .data⟩ (by simp) rfl
      have kc : w1.cell? ⟨w.heap.size, 2, none⟩ = some (.int .i64 t) := (hb.cell (p := ⟨w.heap.size, 2, none⟩) lt).trans c2
      go_simp
      exact hK _ _ rfl (Below.refl _ _)
    · intro a w1 K hb hdep hk hK
      have h8 : a.tmps.getD 11 undef = .int .i64 t := hdep ⟨8, .data⟩ (by simp) rfl
      go_simp
      exact hK _ _ rfl (Below.refl _ _)
    · intro a w1 K hb hdep hk hK
      have h9 : a.tmps.getD 12 undef = .int .i64 (t / 256) := hdep ⟨9, .data⟩ (by simp) rfl
      go_simp
      exact hK _ _ rfl (Below.refl _ _)
    · intro a w1 K hb hdep hk hK
      have h1 : a.tmps.getD 1 undef = .pointer (some ⟨w.heap.size, 0, none⟩) := hk 1 (by kernel_rfl)
      go_simp
      exact hK _ _ rfl (Below.refl _ _)
    · intro a w1 K hb hdep hk hK
      have h11 : a.tmps.getD 14 undef = .pointer (some ⟨w.heap.size, 2, none⟩) := hdep ⟨11, .data⟩ (by simp) rfl
      have kc : w1.cell? ⟨w.heap.size, 2, none⟩ = some (.int .i64 t) := (hb.cell (p := ⟨w.heap.size, 2, none⟩) lt).trans c2
      go_simp
      exact hK _ _ rfl (Below.refl _ _)
    · intro a w1 K hb hdep hk hK
      have h12 : a.tmps.getD 15 undef = .int .i64 t := hdep ⟨12, .data⟩ (by simp) rfl
      go_simp
      exact hK _ _ rfl (Below.refl _ _)
    · intro a w1 K hb hdep hk hK
      have h13 : a.tmps.getD 16 undef = .int .i64 (t % 256) := hdep ⟨13, .data⟩ (by simp) rfl
      go_simp
      exact hK _ _ rfl (Below.refl _ _)
    · intro a w1 K hb hdep hk hK
      have h10 : a.tmps.getD 13 undef = .int .u8 (t / 256) := hdep ⟨10, .data⟩ (by simp) rfl
      have h14 : a.tmps.getD 17 undef = .int .u8 (t % 256) := hdep ⟨14, .data⟩ (by simp) rfl
      have g10 : a.tmps[13]?.getD undef = .int .u8 (t / 256) := by simpa [Array.getD_eq_getD_getElem?] using h10
      have g14 : a.tmps[17]?.getD undef = .int .u8 (t % 256) := by simpa [Array.getD_eq_getD_getElem?] using h14
      clear h10 h14
      go_simp
      exact hK _ (w1.alloc (.cells #[.int .u8 (t / 256), .int .u8 (t % 256)] 5)) ⟨w1.heap.size, rfl, by simp, by go_simp, by go_simp⟩ ((Below.refl _ _).alloc (Nat.le_refl _) _)
    · intro a w1 K hb hdep hk hK
      obtain ⟨b, hv, hl, e0, e1⟩ : fpRow t (a.tmps.getD 18 undef) w1 := hdep ⟨15, .data⟩ (by simp) rfl
      have hc := run_convert_bytes_arg (P := Try.prog) w1 47 5 Try.underlying47 Try.underlying5 b 0 2 2 [t / 256, t % 256] rfl (by
        intro i hi
        match i, hi with
        | 0, _ => exact e0
        | 1, _ => exact e1) 9 Try.underlying9
      clear e0 e1
      go_simp
      exact hK _ _ rfl (Below.refl _ _)
    · intro a w1 K hb hdep hk hK
      have h6 : a.tmps.getD 9 undef = .string (strOfNums (byteNums d ++ byteNums s)) := hdep ⟨6, .data⟩ (by simp) rfl
      have h16 : a.tmps.getD 19 undef = .string (strOfNums [t / 256, t % 256]) := hdep ⟨16, .data⟩ (by simp) rfl
      go_simp
      exact hK _ _ rfl (Below.refl _ _)
    · intro a w1 K hb hdep hk hK
      have h1 : a.tmps.getD 1 undef = .pointer (some ⟨w.heap.size, 0, none⟩) := hk 1 (by kernel_rfl)
      go_simp
      exact hK _ _ rfl (Below.refl _ _)
    · intro a w1 K hb hdep hk hK
      have h18 : a.tmps.getD 21 undef = .pointer (some ⟨w.heap.size, 3, none⟩) := hdep ⟨18, .data⟩ (by simp) rfl
      have kc : w1.cell? ⟨w.heap.size, 3, none⟩ = some (.string x) := (hb.cell (p := ⟨w.heap.size, 3, none⟩) lt).trans c3
      go_simp
      exact hK _ _ rfl (Below.refl _ _)
    · intro a w1 K hb hdep hk hK
      have h17 : a.tmps.getD 20 undef = .string (strOfNums (byteNums d ++ (byteNums s ++ [t / 256, t % 256]))) := hdep ⟨17, .data⟩ (by simp) rfl
      have h19 : a.tmps.getD 22 undef = .string x := hdep ⟨19, .data⟩ (by simp) rfl
      go_simp
      exact hK _ _ rfl (Below.refl _ _)
    · intro a w1 K hb hdep hk hK
      have h20 : a.tmps.getD 23 undef = .string (pBytes d s t x) := hdep ⟨20, .data⟩ (by simp) rfl
      go_simp
      exact hK _ _ rfl (Below.refl _ _)
  · intro a w1 hb hsp hk hn hdf
    have h2 : a.tmps.getD 2 undef = .string (pBytes d s t x) := hsp 21 (by decide)
    have hB : Below w.heap.size w w1 := bel.trans (hb.mono bel.size)
    clear hsp hk
    show Exit.then _ _ _ _ _
    simp only [Exit.then]
    go_wp2_with fail
    exact bodyPost_ret (v := .string (pBytes d s t x)) (by simp only [results, Try.results32]; simp [go_sem] at h2 ⊢; exact h2) hdf ⟨rfl, hB⟩
end Go.Proofs.Ytjmmdlnhallkpaa.MacP
