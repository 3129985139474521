/-
  Contracts of footwayref02's Right and Print.
-/
import Derived.Test.YtlgfogllkoabpaaQMacA
import Derived.Test.YtlgfogllkoabpaaQFrameA
import Derived.Test.YtlgfogllkoabpaaQRegMono
import Derived.Deep.Cut
namespace Go.Proofs.Ytlgfogllkoabpaa.QMacP
open Go.RowKit
set_option linter.unusedVariables false
set_option maxRecDepth 100000

theorem ref_right_is (a : Int) (b : Bool) (h : rightB a = b) (w : World) :
    Calls TryQ.prog 74 #[.int .i64 a] w fun e w' => e = .returned (.bool b) ∧ w = w' := by
  cases b
  · exact ref_right_no a w (rightB_no h)
  · exact ref_right_yes a w (rightB_yes h).1 (rightB_yes h).2
theorem ref_class_is (a : Int) (h : rightB a = true) (w : World) :
    Calls TryQ.prog 75 #[.int .i64 a] w fun e w' => e = .returned (.int .i64 (classI a)) ∧ w = w' :=
  ref_class a w (rightB_yes h).1 (rightB_yes h).2

set_option maxHeartbeats 1000000 in
theorem ref_fright_any (d s t : Int) (x : ByteArray) (w : World) (hx : x.size ≤ maxLen) :
    Calls TryQ.prog 48 #[fv d s t x] w fun e w' => e = .returned (.bool (okB d s t x)) ∧ Below w.heap.size w w' := by
  unfold maxLen at hx
  cases h1 : rightB d
  · have hs : Hid (okB d s t x = false) := Lib.hid (by rw [okB, h1]; rfl)
    have H1 := Lib.hid h1
    clear h1
    go_enter TryQ.func48, Try.ntmps48
    go_wp2_with (go_at_call 74; refine (ref_right_is _ _ H1.out _).mono ?_; rintro e w' ⟨rfl, rfl⟩)
    go_ret
    exact ⟨by rw [hs.out]; rfl, (Below.refl _ _).alloc (Nat.le_refl _) _⟩
  · have H1 := Lib.hid h1
    cases h2 : rightB s
    · have hs : Hid (okB d s t x = false) := Lib.hid (by rw [okB, h1, srcB, h2]; rfl)
      have H2 := Lib.hid h2
      clear h1 h2
      go_enter TryQ.func48, Try.ntmps48
      go_wp2_with (first | (go_at_call 74; (with_reducible refine (ref_right_is d _ H1.out _).mono ?_); rintro e w' ⟨rfl, rfl⟩) | (go_at_call 74; (with_reducible refine (ref_right_is s _ H2.out _).mono ?_); rintro e w' ⟨rfl, rfl⟩))
      go_ret
      exact ⟨by rw [hs.out]; rfl, (Below.refl _ _).alloc (Nat.le_refl _) _⟩
    · have H2 := Lib.hid h2
      cases h3 : (classI s == 0)
      · have hs : Hid (okB d s t x = false) := Lib.hid (by rw [okB, h1, srcB, h2, h3]; rfl)
        clear h1 h2
        go_enter TryQ.func48, Try.ntmps48
        go_wp2_with (first | (go_at_call 74; (with_reducible refine (ref_right_is d _ H1.out _).mono ?_); rintro e w' ⟨rfl, rfl⟩) | (go_at_call 74; (with_reducible refine (ref_right_is s _ H2.out _).mono ?_); rintro e w' ⟨rfl, rfl⟩) | (go_at_call 75; (with_reducible refine (ref_class_is s H2.out _).mono ?_); rintro e w' ⟨rfl, rfl⟩))
        go_ret
        exact ⟨by rw [hs.out]; rfl, (Below.refl _ _).alloc (Nat.le_refl _) _⟩
      · by_cases h4 : 0 ≤ t
        · by_cases h5 : t < 65536
          · have hs : Hid (okB d s t x = decide ((x.size : Int) ≤ 100)) := Lib.hid (by rw [okB, h1, srcB, h2, h3]; simp [h4, show t ≤ 65535 by omega]; omega)
            clear h1 h2
            go_enter TryQ.func48, Try.ntmps48
            go_wp2_with (first | (go_at_call 74; (with_reducible refine (ref_right_is d _ H1.out _).mono ?_); rintro e w' ⟨rfl, rfl⟩) | (go_at_call 74; (with_reducible refine (ref_right_is s _ H2.out _).mono ?_); rintro e w' ⟨rfl, rfl⟩) | (go_at_call 75; (with_reducible refine (ref_class_is s H2.out _).mono ?_); rintro e w' ⟨rfl, rfl⟩))
            go_ret
            exact ⟨by rw [hs.out]; rfl, (Below.refl _ _).alloc (Nat.le_refl _) _⟩
          · have hs : Hid (okB d s t x = false) := Lib.hid (by rw [okB]; simp [show ¬ t ≤ 65535 by omega])
            have h5' : decide (t < 65536) = false := by simpa using h5
            clear h1 h2 h5
            go_enter TryQ.func48, Try.ntmps48
            go_wp2_with (first | (go_at_call 74; (with_reducible refine (ref_right_is d _ H1.out _).mono ?_); rintro e w' ⟨rfl, rfl⟩) | (go_at_call 74; (with_reducible refine (ref_right_is s _ H2.out _).mono ?_); rintro e w' ⟨rfl, rfl⟩) | (go_at_call 75; (with_reducible refine (ref_class_is s H2.out _).mono ?_); rintro e w' ⟨rfl, rfl⟩))
            go_ret
            exact ⟨by rw [hs.out]; rfl, (Below.refl _ _).alloc (Nat.le_refl _) _⟩
        · have hs : Hid (okB d s t x = false) := Lib.hid (by rw [okB]; simp [h4])
          have h4' : decide (0 ≤ t) = false := by simpa using h4
          clear h1 h2 h4
          go_enter TryQ.func48, Try.ntmps48
          go_wp2_with (first | (go_at_call 74; (with_reducible refine (ref_right_is d _ H1.out _).mono ?_); rintro e w' ⟨rfl, rfl⟩) | (go_at_call 74; (with_reducible refine (ref_right_is s _ H2.out _).mono ?_); rintro e w' ⟨rfl, rfl⟩) | (go_at_call 75; (with_reducible refine (ref_class_is s H2.out _).mono ?_); rintro e w' ⟨rfl, rfl⟩))
          go_ret
          exact ⟨by rw [hs.out]; rfl, (Below.refl _ _).alloc (Nat.le_refl _) _⟩

theorem str_two (w : World) (m n : Int) : (convert 36 9 (.slice (some ⟨w.heap.size, 0, none⟩) 2 2)).run TryQ.prog (w.alloc (.cells #[.int .u8 m, .int .u8 n] 5)) = .ok (.string (strOfNums [m, n])) (w.alloc (.cells #[.int .u8 m, .int .u8 n] 5)) :=
  run_convert_bytes_arg _ 36 5 TryQ.underlying36 TryQ.underlying5 w.heap.size 0 2 2 [m, n] rfl (by
    intro i hi
    match i, hi with
    | 0, _ => go_simp
    | 1, _ => go_simp) 9 TryQ.underlying9
theorem str_cat (xs ys : List Int) (w : World) (h : xs.length + ys.length ≤ 1000) : (Op.stringOp .add (strOfNums xs) (strOfNums ys)).run TryQ.prog w = .ok (.string (strOfNums (xs ++ ys))) w := str_add xs ys w h

/-- What the operations of Print's statement yield. -/
def fpVal (B : Nat) (d s t : Int) (x : ByteArray) : Nat → Value
  | 0 => .pointer (some ⟨B, 0, none⟩)
  | 1 => .int .i64 d
  | 2 => .string (strOfNums (byteNums d))
  | 3 => .pointer (some ⟨B, 1, none⟩)
  | 4 => .int .i64 s
  | 5 => .string (strOfNums (byteNums s))
  | 6 => .string (strOfNums (byteNums d ++ byteNums s))
  | 7 => .pointer (some ⟨B, 2, none⟩)
  | 8 => .int .i64 t
  | 9 => .int .i64 (t / 256)
  | 10 => .int .u8 (t / 256)
  | 11 => .pointer (some ⟨B, 2, none⟩)
  | 12 => .int .i64 t
  | 13 => .int .i64 (t % 256)
  | 14 => .int .u8 (t % 256)
  | 16 => .string (strOfNums [t / 256, t % 256])
  | 17 => .string (strOfNums (byteNums d ++ (byteNums s ++ [t / 256, t % 256])))
  | 18 => .pointer (some ⟨B, 3, none⟩)
  | 19 => .string x
  | _ => .string (pBytes d s t x)
def fpRow (t : Int) (v : Value) (w : World) : Prop := ∃ b, v = .slice (some ⟨b, 0, none⟩) 2 2 ∧ b < w.heap.size ∧ w.cell? ⟨b, 0, none⟩ = some (.int .u8 (t / 256)) ∧ w.cell? ⟨b, 1, none⟩ = some (.int .u8 (t % 256))
def fpSp (B : Nat) (d s t : Int) (x : ByteArray) (i : Nat) (v : Value) (w : World) : Prop := if i = 15 then fpRow t v w else v = fpVal B d s t x i
theorem fpSp_mono (B : Nat) (d s t : Int) (x : ByteArray) (i : Nat) (v : Value) (w w' : World) (h : fpSp B d s t x i v w) (hb : Below w.heap.size w w') : fpSp B d s t x i v w' := by
  unfold fpSp at *
  split
  · rw [if_pos (by assumption)] at h
    obtain ⟨b, rfl, hl, h0, h1⟩ := h
    exact ⟨b, rfl, Nat.lt_of_lt_of_le hl hb.size, (hb.cell (p := ⟨b, 0, none⟩) hl).trans h0, (hb.cell (p := ⟨b, 1, none⟩) hl).trans h1⟩
  · rw [if_neg (by assumption)] at h; exact h
def fpSlot (i : Nat) : Nat := if i = 21 then 2 else i + 3

set_option maxRecDepth 100000 in
set_option maxHeartbeats 1000000 in
theorem ref_fprint (d s t : Int) (x : ByteArray) (w : World) (h : okB d s t x = true) :
    Calls TryQ.prog 29 #[fv d s t x] w fun e w' => e = .returned (.string (pBytes d s t x)) ∧ Below w.heap.size w w' := by
  obtain ⟨hd, hs, t0, t1, hx⟩ := okB_yes h
  obtain ⟨d0, d1⟩ := rightB_yes hd
  obtain ⟨s0, s1⟩ := rightB_yes (srcB_right hs)
  have hp := PB_box w d s t x
  have q1 : ∀ w, (Op.stringOp .add (strOfNums (byteNums d)) (strOfNums (byteNums s))).run TryQ.prog w = .ok (.string (strOfNums (byteNums d ++ byteNums s))) w := fun w => str_add _ _ w (by simp [byteNums])
  have q2 : ∀ w, (Op.stringOp .add (strOfNums (byteNums d ++ byteNums s)) (strOfNums [t / 256, t % 256])).run TryQ.prog w = .ok (.string (strOfNums (byteNums d ++ (byteNums s ++ [t / 256, t % 256])))) w := fun w => by
    have := str_add (byteNums d ++ byteNums s) [t / 256, t % 256] w (by simp [byteNums])
    rw [this, List.append_assoc]
  have q3 : ∀ w, (Op.stringOp .add (strOfNums (byteNums d ++ (byteNums s ++ [t / 256, t % 256]))) x).run TryQ.prog w = .ok (.string (pBytes d s t x)) w := fun w => by
    have := str_add (byteNums d ++ (byteNums s ++ [t / 256, t % 256])) (nums x) w (by have := str_size x; simp [byteNums, nums] at this ⊢; omega)
    rw [strOfNums_nums] at this
    rw [this, pB_list]; simp only [List.append_assoc]
  have v1 : t.tdiv 256 = t / 256 := Int.tdiv_eq_ediv_of_nonneg t0
  have v2 : t.tmod 256 = t % 256 := Int.tmod_eq_emod_of_nonneg t0
  have v3 : IntKind.i64.wrap (t / 256) = t / 256 := IntWalk.i64_in _ (by omega)
  have v4 : IntKind.i64.wrap (t % 256) = t % 256 := IntWalk.i64_in _ (by omega)
  have v5 : IntKind.u8.wrap (t / 256) = t / 256 := wrap_u8 _ (by omega)
  have v6 : IntKind.u8.wrap (t % 256) = t % 256 := wrap_u8 _ (by omega)
  clear h hd hs
  go_enter TryQ.func29, Try.ntmps29
  go_wp2_with fail
  generalize w.alloc (.cells #[.int .i64 d, .int .i64 s, .int .i64 t, .string x] 43) = W at *
  obtain ⟨c0, c1, c2, c3, lt, bel⟩ := hp
  refine wp_region_ops (by kernel_rfl) fpSlot (by kernel_rfl) (by kernel_rfl) (fpSp w.heap.size d s t x) (fpSp_mono w.heap.size d s t x) ?_ ?_
  · refine ⟨?_, ?_, ?_, ?_, ?_, ?_, ?_, ?_, ?_, ?_, ?_, ?_, ?_, ?_, ?_, ?_, ?_, ?_, ?_, ?_, ?_, ?_, trivial⟩
    · intro a w1 K hb hdep hk hK
      have h1 : a.tmps.getD 1 undef = .pointer (some ⟨w.heap.size, 0, none⟩) := hk 1 (by kernel_rfl)
      go_simp
      exact hK _ _ rfl (Below.refl _ _)
    · intro a w1 K hb hdep hk hK
      have h0 : a.tmps.getD 3 undef = .pointer (some ⟨w.heap.size, 0, none⟩) := hdep ⟨0, .data⟩ (by simp) rfl
      have kc : w1.cell? ⟨w.heap.size, 0, none⟩ = some (.int .i64 d) := (hb.cell (p := ⟨w.heap.size, 0, none⟩) lt).trans c0
      go_simp
      exact hK _ _ rfl (Below.refl _ _)
    · intro a w1 K hb hdep hk hK
      have h1 : a.tmps.getD 4 undef = .int .i64 d := hdep ⟨1, .data⟩ (by simp) rfl
      go_simp
      refine (ref_bytes _ _ d0 d1).mono ?_
      rintro e w2 ⟨rfl, hb2⟩
      exact hK _ _ rfl hb2
    · intro a w1 K hb hdep hk hK
      have h1 : a.tmps.getD 1 undef = .pointer (some ⟨w.heap.size, 0, none⟩) := hk 1 (by kernel_rfl)
      go_simp
      exact hK _ _ rfl (Below.refl _ _)
    · intro a w1 K hb hdep hk hK
      have h3 : a.tmps.getD 6 undef = .pointer (some ⟨w.heap.size, 1, none⟩) := hdep ⟨3, .data⟩ (by simp) rfl
      have kc : w1.cell? ⟨w.heap.size, 1, none⟩ = some (.int .i64 s) := (hb.cell (p := ⟨w.heap.size, 1, none⟩) lt).trans c1
      go_simp
      exact hK _ _ rfl (Below.refl _ _)
    · intro a w1 K hb hdep hk hK
      have h4 : a.tmps.getD 7 undef = .int .i64 s := hdep ⟨4, .data⟩ (by simp) rfl
      go_simp
      refine (ref_bytes _ _ s0 s1).mono ?_
      rintro e w2 ⟨rfl, hb2⟩
      exact hK _ _ rfl hb2
    · intro a w1 K hb hdep hk hK
      have h2 : a.tmps.getD 5 undef = .string (strOfNums (byteNums d)) := hdep ⟨2, .data⟩ (by simp) rfl
      have h5 : a.tmps.getD 8 undef = .string (strOfNums (byteNums s)) := hdep ⟨5, .data⟩ (by simp) rfl
      go_simp
      exact hK _ _ rfl (Below.refl _ _)
    · intro a w1 K hb hdep hk hK
      have h1 : a.tmps.getD 1 undef = .pointer (some ⟨w.heap.size, 0, none⟩) := hk 1 (by kernel_rfl)
      go_simp
      exact hK _ _ rfl (Below.refl _ _)
    · intro a w1 K hb hdep hk hK
      have h7 : a.tmps.getD 10 undef = .pointer (some ⟨w.heap.size, 2, none⟩) := hdep ⟨7, .data⟩ (by simp) rfl
      have kc : w1.cell? ⟨w.heap.size, 2, none⟩ = some (.int .i64 t) := (hb.cell (p := ⟨w.heap.size, 2, none⟩) lt).trans c2
      go_simp
      exact hK _ _ rfl (Below.refl _ _)
    · intro a w1 K hb hdep hk hK
      have h8 : a.tmps.getD 11 undef = .int .i64 t := hdep ⟨8, .data⟩ (by simp) rfl
      go_simp
      exact hK _ _ rfl (Below.refl _ _)
    · intro a w1 K hb hdep hk hK
      have h9 : a.tmps.getD 12 undef = .int .i64 (t / 256) := hdep ⟨9, .data⟩ (by simp) rfl
      go_simp
      exact hK _ _ rfl (Below.refl _ _)
    · intro a w1 K hb hdep hk hK
      have h1 : a.tmps.getD 1 undef = .pointer (some ⟨w.heap.size, 0, none⟩) := hk 1 (by kernel_rfl)
      go_simp
      exact hK _ _ rfl (Below.refl _ _)
    · intro a w1 K hb hdep hk hK
      have h11 : a.tmps.getD 14 undef = .pointer (some ⟨w.heap.size, 2, none⟩) := hdep ⟨11, .data⟩ (by simp) rfl
      have kc : w1.cell? ⟨w.heap.size, 2, none⟩ = some (.int .i64 t) := (hb.cell (p := ⟨w.heap.size, 2, none⟩) lt).trans c2
      go_simp
      exact hK _ _ rfl (Below.refl _ _)
    · intro a w1 K hb hdep hk hK
      have h12 : a.tmps.getD 15 undef = .int .i64 t := hdep ⟨12, .data⟩ (by simp) rfl
      go_simp
      exact hK _ _ rfl (Below.refl _ _)
    · intro a w1 K hb hdep hk hK
      have h13 : a.tmps.getD 16 undef = .int .i64 (t % 256) := hdep ⟨13, .data⟩ (by simp) rfl
      go_simp
      exact hK _ _ rfl (Below.refl _ _)
    · intro a w1 K hb hdep hk hK
      have h10 : a.tmps.getD 13 undef = .int .u8 (t / 256) := hdep ⟨10, .data⟩ (by simp) rfl
      have h14 : a.tmps.getD 17 undef = .int .u8 (t % 256) := hdep ⟨14, .data⟩ (by simp) rfl
      have g10 : a.tmps[13]?.getD undef = .int .u8 (t / 256) := by simpa [Array.getD_eq_getD_getElem?] using h10
      have g14 : a.tmps[17]?.getD undef = .int .u8 (t % 256) := by simpa [Array.getD_eq_getD_getElem?] using h14
      clear h10 h14
      go_simp
      exact hK _ (w1.alloc (.cells #[.int .u8 (t / 256), .int .u8 (t % 256)] 5)) ⟨w1.heap.size, rfl, by simp, by go_simp, by go_simp⟩ ((Below.refl _ _).alloc (Nat.le_refl _) _)
    · intro a w1 K hb hdep hk hK
      obtain ⟨b, hv, hl, e0, e1⟩ : fpRow t (a.tmps.getD 18 undef) w1 := hdep ⟨15, .data⟩ (by simp) rfl
      have hc := run_convert_bytes_arg (P := TryQ.prog) w1 36 5 TryQ.underlying36 TryQ.underlying5 b 0 2 2 [t / 256, t % 256] rfl (by
        intro i hi
        match i, hi with
        | 0, _ => exact e0
        | 1, _ => exact e1) 9 TryQ.underlying9
      clear e0 e1
      go_simp
      exact hK _ _ rfl (Below.refl _ _)
    · intro a w1 K hb hdep hk hK
      have h6 : a.tmps.getD 9 undef = .string (strOfNums (byteNums d ++ byteNums s)) := hdep ⟨6, .data⟩ (by simp) rfl
      have h16 : a.tmps.getD 19 undef = .string (strOfNums [t / 256, t % 256]) := hdep ⟨16, .data⟩ (by simp) rfl
      go_simp
      exact hK _ _ rfl (Below.refl _ _)
    · intro a w1 K hb hdep hk hK
      have h1 : a.tmps.getD 1 undef = .pointer (some ⟨w.heap.size, 0, none⟩) := hk 1 (by kernel_rfl)
      go_simp
      exact hK _ _ rfl (Below.refl _ _)
    · intro a w1 K hb hdep hk hK
      have h18 : a.tmps.getD 21 undef = .pointer (some ⟨w.heap.size, 3, none⟩) := hdep ⟨18, .data⟩ (by simp) rfl
      have kc : w1.cell? ⟨w.heap.size, 3, none⟩ = some (.string x) := (hb.cell (p := ⟨w.heap.size, 3, none⟩) lt).trans c3
      go_simp
      exact hK _ _ rfl (Below.refl _ _)
    · intro a w1 K hb hdep hk hK
      have h17 : a.tmps.getD 20 undef = .string (strOfNums (byteNums d ++ (byteNums s ++ [t / 256, t % 256]))) := hdep ⟨17, .data⟩ (by simp) rfl
      have h19 : a.tmps.getD 22 undef = .string x := hdep ⟨19, .data⟩ (by simp) rfl
      go_simp
      exact hK _ _ rfl (Below.refl _ _)
    · intro a w1 K hb hdep hk hK
      have h20 : a.tmps.getD 23 undef = .string (pBytes d s t x) := hdep ⟨20, .data⟩ (by simp) rfl
      go_simp
      exact hK _ _ rfl (Below.refl _ _)
  · intro a w1 hb hsp hk hn hdf
    have h2 : a.tmps.getD 2 undef = .string (pBytes d s t x) := hsp 21 (by decide)
    have hB : Below w.heap.size w w1 := bel.trans (hb.mono bel.size)
    clear hsp hk
    show Exit.then _ _ _ _ _
    simp only [Exit.then]
    go_wp2_with fail
    exact bodyPost_ret (v := .string (pBytes d s t x)) (by simp only [results, Try.results29]; simp [go_sem] at h2 ⊢; exact h2) hdf ⟨rfl, hB⟩
end Go.Proofs.Ytlgfogllkoabpaa.QMacP

/-
  Contract of footwayref02.Parse.
-/
namespace Go.Proofs.Ytlgfogllkoabpaa.QMacP
open Go.RowKit
set_option linter.unusedVariables false
set_option maxRecDepth 100000

theorem ref_of0 (s : ByteArray) (h : 6 ≤ s.size) (w : World) :
    Calls TryQ.prog 47 #[.string (s.extract 0 6)] w fun e w' => e = .returned (.int .i64 (adr s 0)) ∧ w = w' :=
  ref_of (s.extract 0 6) w (by rw [ext_size _ _ _ h])
theorem ref_of6 (s : ByteArray) (h : 12 ≤ s.size) (w : World) :
    Calls TryQ.prog 47 #[.string (s.extract 6 12)] w fun e w' => e = .returned (.int .i64 (adr s 6)) ∧ w = w' :=
  ref_of (s.extract 6 12) w (by rw [ext_size _ _ _ h])
theorem ref_fright_is (d s t : Int) (x : ByteArray) (b : Bool) (h : okB d s t x = b) (w : World) (hx : x.size ≤ maxLen) :
    Calls TryQ.prog 48 #[fv d s t x] w fun e w' => e = .returned (.bool b) ∧ Below w.heap.size w w' := by
  subst h; exact ref_fright_any d s t x w hx

theorem dat_size (s : ByteArray) : (dat s).size = s.size - 14 := by unfold dat; rw [ByteArray.size_extract]; omega
theorem okB_parsed (s : ByteArray) (h0 : 14 ≤ s.size) (h1 : s.size ≤ 114) : okB (adr s 0) (adr s 6) (typ s) (dat s) = srcB (adr s 6) := by
  have ht := typ_bd s
  have hd := dat_size s
  unfold okB
  rw [adr_right]
  have h3 : (dat s).size ≤ 100 := by omega
  simp [ht.1, ht.2, h3]

set_option maxHeartbeats 400000 in
theorem ref_fparse_len (s : ByteArray) (n : Int) (hn : n ≠ 0) (h : (if s.size < 14 then (7 : Int) else if 114 < s.size then 8 else 0) = n) (w : World) (hs : s.size ≤ maxLen) :
    Calls TryQ.prog 25 #[.string s] w fun e w' => e = .returned (.tuple #[fv 0 0 0 ⟨#[]⟩, .int .i64 n]) ∧ Below w.heap.size w w' := by
  unfold maxLen at hs
  by_cases h1 : s.size < 14
  · rw [if_pos h1] at h
    subst h
    go_enter TryQ.func25, Try.ntmps25
    go_wp2_with fail
    refine bodyPost_ret (v := .tuple #[fv 0 0 0 ⟨#[]⟩, .int .i64 7]) (by simp [results, Try.results25, go_sem]) rfl ⟨rfl, ?_⟩
    repeat (first | exact Below.refl _ _ | refine Below.setCell ?_ (by simp) _ | refine Below.alloc ?_ (by simp) _)
  · rw [if_neg h1] at h
    by_cases h2 : 114 < s.size
    · rw [if_pos h2] at h
      subst h
      go_enter TryQ.func25, Try.ntmps25
      go_wp2_with fail
      refine bodyPost_ret (v := .tuple #[fv 0 0 0 ⟨#[]⟩, .int .i64 8]) (by simp [results, Try.results25, go_sem]) rfl ⟨rfl, ?_⟩
      repeat (first | exact Below.refl _ _ | refine Below.setCell ?_ (by simp) _ | refine Below.alloc ?_ (by simp) _)
    · rw [if_neg h2] at h
      exact absurd h.symm hn

/-- What the operations of Parse's literal yield. -/
def rpVal (s : ByteArray) : Nat → Value
  | 0 => .string s
  | 1 => .string (s.extract 0 6)
  | 2 => .int .i64 (adr s 0)
  | 3 => .string s
  | 4 => .string (s.extract 6 12)
  | 5 => .int .i64 (adr s 6)
  | 6 => .string s
  | 7 => .int .u8 (gb s 12)
  | 8 => .int .i64 (gb s 12)
  | 9 => .int .i64 (256 * gb s 12)
  | 10 => .string s
  | 11 => .int .u8 (gb s 13)
  | 12 => .int .i64 (gb s 13)
  | 13 => .int .i64 (typ s)
  | 14 => .string s
  | 15 => .string (dat s)
  | 16 => fv (adr s 0) (adr s 6) (typ s) (dat s)
  | _ => undef
def rpSlot (i : Nat) : Nat := if i = 17 then 4 else i + 13
def rpSp (s : ByteArray) (i : Nat) (v : Value) (w : World) : Prop := v = rpVal s i

set_option maxRecDepth 100000 in
set_option maxHeartbeats 1000000 in
theorem ref_fparse_mid (s : ByteArray) (w : World) (h0 : 14 ≤ s.size) (h1 : s.size ≤ 114) :
    Calls TryQ.prog 25 #[.string s] w fun e w' => e = .returned (pTup s) ∧ Below w.heap.size w w' := by
  have g0 := gb_bd s 12
  have g1 := gb_bd s 13
  have n0 : (14 : Int) ≤ (s.size : Int) := by omega
  have n1 : (12 : Int) ≤ (s.size : Int) := by omega
  have n2 : (6 : Int) ≤ (s.size : Int) := by omega
  have n3 : (12 : Int) < (s.size : Int) := by omega
  have n4 : (13 : Int) < (s.size : Int) := by omega
  have b12 : 12 < s.size := by omega
  have b13 : 13 < s.size := by omega
  have a0 : 6 ≤ s.size := by omega
  have a1 : 12 ≤ s.size := by omega
  have z12 := get_gb s 12 b12
  have z13 := get_gb s 13 b13
  have v1 : IntKind.i64.wrap (gb s 12) = gb s 12 := IntWalk.i64_in _ (by omega)
  have v2 : IntKind.i64.wrap (gb s 13) = gb s 13 := IntWalk.i64_in _ (by omega)
  have v3 : IntKind.i64.wrap (256 * gb s 12) = 256 * gb s 12 := IntWalk.i64_in _ (by omega)
  have v4 : IntKind.i64.wrap (256 * gb s 12 + gb s 13) = typ s := IntWalk.i64_in _ (by omega)
  have tb := typ_bd s
  have v6 : IntKind.i64.wrap (typ s) = typ s := IntWalk.i64_in _ (by omega)
  have v5 : 256 * gb s 12 + gb s 13 = typ s := rfl
  have fd : s.extract 14 s.size = dat s := rfl
  have hm : Hid ((dat s).size ≤ maxLen) := Lib.hid (by unfold dat maxLen; rw [ByteArray.size_extract]; omega)
  go_enter TryQ.func25, Try.ntmps25
  go_upto_region 5 with fail
  have hz : (w.alloc (.cells #[.int .i64 0, .int .i64 0, .int .i64 0, .string ⟨#[]⟩] 43)).heap.size = w.heap.size + 1 := by simp
  have k0 : ∀ j v, #[Value.int .i64 0, .int .i64 0, .int .i64 0, .string ⟨#[]⟩][j]? = some v → (w.alloc (.cells #[.int .i64 0, .int .i64 0, .int .i64 0, .string ⟨#[]⟩] 43)).cell? ⟨w.heap.size, j, none⟩ = some v := fun j v hj => by rw [World.cell?_alloc_new, hj]
  have kf : ∀ j, (w.alloc (.cells #[.int .i64 0, .int .i64 0, .int .i64 0, .string ⟨#[]⟩] 43)).frozen? ⟨w.heap.size, j, none⟩ = false := fun j => by go_simp
  have hW : Below w.heap.size w (w.alloc (.cells #[.int .i64 0, .int .i64 0, .int .i64 0, .string ⟨#[]⟩] 43)) := (Below.refl _ _).alloc (Nat.le_refl _) _
  generalize w.alloc (.cells #[.int .i64 0, .int .i64 0, .int .i64 0, .string ⟨#[]⟩] 43) = W at *
  refine wp_region_lit (by kernel_rfl) rpSlot 17 18 43 #[.int .i64 0, .int .i64 0, .int .i64 0, .string ⟨#[]⟩] #[.int .i64 (adr s 0), .int .i64 (adr s 6), .int .i64 (typ s), .string (dat s)] (by decide) (by decide) (by decide) (by kernel_rfl) (by kernel_rfl) (by kernel_rfl) rfl
    (rpSp s) (fun _ _ _ _ h _ => h) (fun _ _ _ _ _ h _ _ => h) ?_ ?_
  · refine ⟨?_, ?_, ?_, ?_, ?_, ?_, ?_, ?_, ?_, ?_, ?_, ?_, ?_, ?_, ?_, ?_, ?_, ?_, ?_, trivial⟩
    · intro a w1 K hb hdep hk hK
      have h0 : a.tmps.getD 0 undef = .string s := hk 0 (by kernel_rfl)
      replace hK : ∀ v w', v = .string s → Below w1.heap.size w1 w' → K (a.put (some 13) v) w' := hK
      clear hdep hk
      go_simp
      exact hK _ _ rfl (Below.refl _ _)
    · intro a w1 K hb hdep hk hK
      have h0 : a.tmps.getD 13 undef = .string s := hdep ⟨0, .data⟩ (by simp) rfl (by decide) (by decide)
      replace hK : ∀ v w', v = .string (s.extract 0 6) → Below w1.heap.size w1 w' → K (a.put (some 14) v) w' := hK
      clear hdep hk
      go_simp
      exact hK _ _ rfl (Below.refl _ _)
    · intro a w1 K hb hdep hk hK
      have h1 : a.tmps.getD 14 undef = .string (s.extract 0 6) := hdep ⟨1, .data⟩ (by simp) rfl (by decide) (by decide)
      replace hK : ∀ v w', v = .int .i64 (adr s 0) → Below w1.heap.size w1 w' → K (a.put (some 15) v) w' := hK
      clear hdep hk
      go_simp
      refine (ref_of0 s a0 _).mono ?_
      rintro e w' ⟨rfl, rfl⟩
      exact hK _ _ rfl (Below.refl _ _)
    · intro a w1 K hb hdep hk hK
      have h0 : a.tmps.getD 0 undef = .string s := hk 0 (by kernel_rfl)
      replace hK : ∀ v w', v = .string s → Below w1.heap.size w1 w' → K (a.put (some 16) v) w' := hK
      clear hdep hk
      go_simp
      exact hK _ _ rfl (Below.refl _ _)
    · intro a w1 K hb hdep hk hK
      have h3 : a.tmps.getD 16 undef = .string s := hdep ⟨3, .data⟩ (by simp) rfl (by decide) (by decide)
      replace hK : ∀ v w', v = .string (s.extract 6 12) → Below w1.heap.size w1 w' → K (a.put (some 17) v) w' := hK
      clear hdep hk
      go_simp
      exact hK _ _ rfl (Below.refl _ _)
    · intro a w1 K hb hdep hk hK
      have h4 : a.tmps.getD 17 undef = .string (s.extract 6 12) := hdep ⟨4, .data⟩ (by simp) rfl (by decide) (by decide)
      replace hK : ∀ v w', v = .int .i64 (adr s 6) → Below w1.heap.size w1 w' → K (a.put (some 18) v) w' := hK
      clear hdep hk
      go_simp
      refine (ref_of6 s a1 _).mono ?_
      rintro e w' ⟨rfl, rfl⟩
      exact hK _ _ rfl (Below.refl _ _)
    · intro a w1 K hb hdep hk hK
      have h0 : a.tmps.getD 0 undef = .string s := hk 0 (by kernel_rfl)
      replace hK : ∀ v w', v = .string s → Below w1.heap.size w1 w' → K (a.put (some 19) v) w' := hK
      clear hdep hk
      go_simp
      exact hK _ _ rfl (Below.refl _ _)
    · intro a w1 K hb hdep hk hK
      have h6 : a.tmps.getD 19 undef = .string s := hdep ⟨6, .data⟩ (by simp) rfl (by decide) (by decide)
      replace hK : ∀ v w', v = .int .u8 (gb s 12) → Below w1.heap.size w1 w' → K (a.put (some 20) v) w' := hK
      clear hdep hk
      go_simp
      exact hK _ _ rfl (Below.refl _ _)
    · intro a w1 K hb hdep hk hK
      have h7 : a.tmps.getD 20 undef = .int .u8 (gb s 12) := hdep ⟨7, .data⟩ (by simp) rfl (by decide) (by decide)
      replace hK : ∀ v w', v = .int .i64 (gb s 12) → Below w1.heap.size w1 w' → K (a.put (some 21) v) w' := hK
      clear hdep hk
      go_simp
      exact hK _ _ rfl (Below.refl _ _)
    · intro a w1 K hb hdep hk hK
      have h8 : a.tmps.getD 21 undef = .int .i64 (gb s 12) := hdep ⟨8, .data⟩ (by simp) rfl (by decide) (by decide)
      replace hK : ∀ v w', v = .int .i64 (256 * gb s 12) → Below w1.heap.size w1 w' → K (a.put (some 22) v) w' := hK
      clear hdep hk
      go_simp
      exact hK _ _ rfl (Below.refl _ _)
    · intro a w1 K hb hdep hk hK
      have h0 : a.tmps.getD 0 undef = .string s := hk 0 (by kernel_rfl)
      replace hK : ∀ v w', v = .string s → Below w1.heap.size w1 w' → K (a.put (some 23) v) w' := hK
      clear hdep hk
      go_simp
      exact hK _ _ rfl (Below.refl _ _)
    · intro a w1 K hb hdep hk hK
      have h10 : a.tmps.getD 23 undef = .string s := hdep ⟨10, .data⟩ (by simp) rfl (by decide) (by decide)
      replace hK : ∀ v w', v = .int .u8 (gb s 13) → Below w1.heap.size w1 w' → K (a.put (some 24) v) w' := hK
      clear hdep hk
      go_simp
      exact hK _ _ rfl (Below.refl _ _)
    · intro a w1 K hb hdep hk hK
      have h11 : a.tmps.getD 24 undef = .int .u8 (gb s 13) := hdep ⟨11, .data⟩ (by simp) rfl (by decide) (by decide)
      replace hK : ∀ v w', v = .int .i64 (gb s 13) → Below w1.heap.size w1 w' → K (a.put (some 25) v) w' := hK
      clear hdep hk
      go_simp
      exact hK _ _ rfl (Below.refl _ _)
    · intro a w1 K hb hdep hk hK
      have h9 : a.tmps.getD 22 undef = .int .i64 (256 * gb s 12) := hdep ⟨9, .data⟩ (by simp) rfl (by decide) (by decide)
      have h12 : a.tmps.getD 25 undef = .int .i64 (gb s 13) := hdep ⟨12, .data⟩ (by simp) rfl (by decide) (by decide)
      replace hK : ∀ v w', v = .int .i64 (typ s) → Below w1.heap.size w1 w' → K (a.put (some 26) v) w' := hK
      clear hdep hk
      go_simp
      exact hK _ _ rfl (Below.refl _ _)
    · intro a w1 K hb hdep hk hK
      have h0 : a.tmps.getD 0 undef = .string s := hk 0 (by kernel_rfl)
      replace hK : ∀ v w', v = .string s → Below w1.heap.size w1 w' → K (a.put (some 27) v) w' := hK
      clear hdep hk
      go_simp
      exact hK _ _ rfl (Below.refl _ _)
    · intro a w1 K hb hdep hk hK
      have h14 : a.tmps.getD 27 undef = .string s := hdep ⟨14, .data⟩ (by simp) rfl (by decide) (by decide)
      replace hK : ∀ v w', v = .string (dat s) → Below w1.heap.size w1 w' → K (a.put (some 28) v) w' := hK
      clear hdep hk
      go_simp
      exact hK _ _ rfl (Below.refl _ _)
    · intro a w1 K hb hdep hk hK
      have h2 : a.tmps.getD 15 undef = .int .i64 (adr s 0) := hdep ⟨2, .data⟩ (by simp) rfl (by decide) (by decide)
      have h5 : a.tmps.getD 18 undef = .int .i64 (adr s 6) := hdep ⟨5, .data⟩ (by simp) rfl (by decide) (by decide)
      have h13 : a.tmps.getD 26 undef = .int .i64 (typ s) := hdep ⟨13, .data⟩ (by simp) rfl (by decide) (by decide)
      have h15 : a.tmps.getD 28 undef = .string (dat s) := hdep ⟨15, .data⟩ (by simp) rfl (by decide) (by decide)
      replace hK : ∀ v w', v = fv (adr s 0) (adr s 6) (typ s) (dat s) → Below w1.heap.size w1 w' → K (a.put (some 29) v) w' := hK
      have g2 : a.tmps[15]?.getD undef = .int .i64 (adr s 0) := by simpa [Array.getD_eq_getD_getElem?] using h2
      have g5 : a.tmps[18]?.getD undef = .int .i64 (adr s 6) := by simpa [Array.getD_eq_getD_getElem?] using h5
      have g13 : a.tmps[26]?.getD undef = .int .i64 (typ s) := by simpa [Array.getD_eq_getD_getElem?] using h13
      have g15 : a.tmps[28]?.getD undef = .string (dat s) := by simpa [Array.getD_eq_getD_getElem?] using h15
      clear hdep hk h2 h5 h13 h15
      go_simp
      exact hK _ _ rfl (Below.refl _ _)
    · intro a w1 K hb hdep hk hK
      replace hK : K (a.put (some 4) (.pointer (some ⟨w1.heap.size, 0, none⟩))) (w1.alloc (.cells #[.int .i64 0, .int .i64 0, .int .i64 0, .string ⟨#[]⟩] 43)) := hK
      clear hdep hk
      go_simp
      exact hK
    · intro a w1 K hb hdep hk hK
      have h16 : a.tmps.getD 29 undef = fv (adr s 0) (adr s 6) (typ s) (dat s) := hdep ⟨16, .data⟩ (by simp) rfl (by decide) (by decide)
      obtain ⟨b, cs, h4, hblk, hcs, hK⟩ : ∃ b cs, a.tmps.getD 4 undef = .pointer (some ⟨b, 0, none⟩) ∧ w1.heap[b]? = some (.cells cs 43 (0, 0)) ∧ cs.size = 4 ∧ ∀ w', Wrote b #[.int .i64 (adr s 0), .int .i64 (adr s 6), .int .i64 (typ s), .string (dat s)] 43 w1 w' → K a w' := hK
      obtain ⟨c0, c1, c2, c3, rfl⟩ := Joins.array4 hcs
      have e0 : w1.cell? ⟨b, 0, none⟩ = some c0 := Joins.cell_of_block hblk 0
      have e1 : w1.cell? ⟨b, 1, none⟩ = some c1 := Joins.cell_of_block hblk 1
      have e2 : w1.cell? ⟨b, 2, none⟩ = some c2 := Joins.cell_of_block hblk 2
      have e3 : w1.cell? ⟨b, 3, none⟩ = some c3 := Joins.cell_of_block hblk 3
      have f0 : w1.frozen? ⟨b, 0, none⟩ = false := Joins.unfrozen_of_block hblk 0
      have f1 : w1.frozen? ⟨b, 1, none⟩ = false := Joins.unfrozen_of_block hblk 1
      have f2 : w1.frozen? ⟨b, 2, none⟩ = false := Joins.unfrozen_of_block hblk 2
      have f3 : w1.frozen? ⟨b, 3, none⟩ = false := Joins.unfrozen_of_block hblk 3
      clear hdep hk
      go_simp
      exact hK _ (((((Wrote.start hblk).set (i := 0) _).set (i := 1) _).set (i := 2) _).set (i := 3) _)
  · intro a w1 b hb hsp hk h4 hbB hblk hn hdf
    have s0 : a.tmps.getD 0 undef = .string s := hk 0 (by kernel_rfl)
    have s2 : a.tmps.getD 2 undef = .pointer (some ⟨w.heap.size, 0, none⟩) := hk 2 (by kernel_rfl)
    have s3 : a.tmps.getD 3 undef = .int .i64 0 := hk 3 (by kernel_rfl)
    have s4 : a.tmps.getD 4 undef = .pointer (some ⟨b, 0, none⟩) := h4
    clear hsp hk h4
    obtain ⟨tm, df⟩ := a
    have e := arr_out tm 35 hn
    replace e : tm = #[tm.getD 0 undef, tm.getD 1 undef, tm.getD 2 undef, tm.getD 3 undef, tm.getD 4 undef, tm.getD 5 undef, tm.getD 6 undef, tm.getD 7 undef, tm.getD 8 undef, tm.getD 9 undef, tm.getD 10 undef, tm.getD 11 undef, tm.getD 12 undef, tm.getD 13 undef, tm.getD 14 undef, tm.getD 15 undef, tm.getD 16 undef, tm.getD 17 undef, tm.getD 18 undef, tm.getD 19 undef, tm.getD 20 undef, tm.getD 21 undef, tm.getD 22 undef, tm.getD 23 undef, tm.getD 24 undef, tm.getD 25 undef, tm.getD 26 undef, tm.getD 27 undef, tm.getD 28 undef, tm.getD 29 undef, tm.getD 30 undef, tm.getD 31 undef, tm.getD 32 undef, tm.getD 33 undef, tm.getD 34 undef] := e
    simp only at s0 s2 s3 s4 hdf
    rw [s0, s2, s3, s4] at e
    subst hdf
    clear s0 s2 s3 s4 hn
    generalize tm.getD 1 undef = u1 at e
    generalize tm.getD 5 undef = u5 at e
    generalize tm.getD 6 undef = u6 at e
    generalize tm.getD 7 undef = u7 at e
    generalize tm.getD 8 undef = u8 at e
    generalize tm.getD 9 undef = u9 at e
    generalize tm.getD 10 undef = u10 at e
    generalize tm.getD 11 undef = u11 at e
    generalize tm.getD 12 undef = u12 at e
    generalize tm.getD 13 undef = u13 at e
    generalize tm.getD 14 undef = u14 at e
    generalize tm.getD 15 undef = u15 at e
    generalize tm.getD 16 undef = u16 at e
    generalize tm.getD 17 undef = u17 at e
    generalize tm.getD 18 undef = u18 at e
    generalize tm.getD 19 undef = u19 at e
    generalize tm.getD 20 undef = u20 at e
    generalize tm.getD 21 undef = u21 at e
    generalize tm.getD 22 undef = u22 at e
    generalize tm.getD 23 undef = u23 at e
    generalize tm.getD 24 undef = u24 at e
    generalize tm.getD 25 undef = u25 at e
    generalize tm.getD 26 undef = u26 at e
    generalize tm.getD 27 undef = u27 at e
    generalize tm.getD 28 undef = u28 at e
    generalize tm.getD 29 undef = u29 at e
    generalize tm.getD 30 undef = u30 at e
    generalize tm.getD 31 undef = u31 at e
    generalize tm.getD 32 undef = u32 at e
    generalize tm.getD 33 undef = u33 at e
    generalize tm.getD 34 undef = u34 at e
    subst e
    have lt : w.heap.size < W.heap.size := by omega
    have r0 : ∀ j v, #[Value.int .i64 0, .int .i64 0, .int .i64 0, .string ⟨#[]⟩][j]? = some v → w1.cell? ⟨w.heap.size, j, none⟩ = some v := fun j v hj => (hb.cell (p := ⟨w.heap.size, j, none⟩) lt).trans (k0 j v hj)
    have rf : ∀ j, w1.frozen? ⟨w.heap.size, j, none⟩ = false := fun j => (hb.frozen (p := ⟨w.heap.size, j, none⟩) lt).trans (kf j)
    have q0 := r0 0 _ rfl
    have q1 := r0 1 _ rfl
    have q2 := r0 2 _ rfl
    have q3 := r0 3 _ rfl
    have p0 := rf 0
    have p1 := rf 1
    have p2 := rf 2
    have p3 := rf 3
    have e0 : w1.cell? ⟨b, 0, none⟩ = some (.int .i64 (adr s 0)) := Joins.cell_of_block hblk 0
    have e1 : w1.cell? ⟨b, 1, none⟩ = some (.int .i64 (adr s 6)) := Joins.cell_of_block hblk 1
    have e2 : w1.cell? ⟨b, 2, none⟩ = some (.int .i64 (typ s)) := Joins.cell_of_block hblk 2
    have e3 : w1.cell? ⟨b, 3, none⟩ = some (.string (dat s)) := Joins.cell_of_block hblk 3
    have bb : b < w1.heap.size := by
      rcases Nat.lt_or_ge b w1.heap.size with q | q
      · exact q
      · rw [Array.getElem?_eq_none q] at hblk; cases hblk
    have hB : Below w.heap.size w w1 := hW.trans (hb.mono (Nat.le_of_lt lt))
    clear tb v6 r0 rf k0 kf hblk z12 z13 v1 v2 v3 v4 v5 fd n0 n1 n2 n3 n4
    show Exit.then _ _ _ _ _
    simp only [Exit.then]
    cases hsr : okB (adr s 0) (adr s 6) (typ s) (dat s)
    · have HR := Lib.hid hsr
      have hp : Hid (pTup s = .tuple #[fv 0 0 0 ⟨#[]⟩, .int .i64 10]) := Lib.hid (pTup_bad s 10 (by
        have hd := (dat_size s)
        rw [okB_parsed s h0 h1] at hsr
        rw [pE, if_neg (by omega), if_neg (by omega), hsr]; rfl) (by decide))
      clear hsr
      go_wp2_with fail
      go_at_call 48
      refine (ref_fright_is _ _ _ _ _ HR.out _ hm.out).mono ?_
      rintro e w2 ⟨rfl, hb2⟩
      obtain ⟨hc2, hf2⟩ := bcell hb2
      have zz : w.heap.size < w1.heap.size := by omega
      have y0 := (hc2 w.heap.size 0 zz).trans q0
      have y1 := (hc2 w.heap.size 1 zz).trans q1
      have y2 := (hc2 w.heap.size 2 zz).trans q2
      have y3 := (hc2 w.heap.size 3 zz).trans q3
      have x0 := (hf2 w.heap.size 0 zz).trans p0
      have x1 := (hf2 w.heap.size 1 zz).trans p1
      have x2 := (hf2 w.heap.size 2 zz).trans p2
      have x3 := (hf2 w.heap.size 3 zz).trans p3
      clear hc2 hf2
      go_wp2_with fail
      refine bodyPost_ret (v := .tuple #[fv 0 0 0 ⟨#[]⟩, .int .i64 10]) (by simp [results, Try.results25, go_sem, y0, y1, y2, y3]) rfl ⟨by rw [hp.out], ?_⟩
      repeat (first | exact hB.trans (hb2.mono (by omega)) | refine Below.setCell ?_ (by simp) _)
    · have HR := Lib.hid hsr
      have hp : Hid (pTup s = .tuple #[fv (adr s 0) (adr s 6) (typ s) (dat s), .int .i64 0]) := Lib.hid (pTup_good s (by
        rw [okB_parsed s h0 h1] at hsr
        rw [pE, if_neg (by omega), if_neg (by omega), hsr]; rfl))
      clear hsr
      go_wp2_with fail
      go_at_call 48
      refine (ref_fright_is _ _ _ _ _ HR.out _ hm.out).mono ?_
      rintro e w2 ⟨rfl, hb2⟩
      obtain ⟨hc2, hf2⟩ := bcell hb2
      have zz : w.heap.size < w1.heap.size := by omega
      have y0 := (hc2 w.heap.size 0 zz).trans q0
      have y1 := (hc2 w.heap.size 1 zz).trans q1
      have y2 := (hc2 w.heap.size 2 zz).trans q2
      have y3 := (hc2 w.heap.size 3 zz).trans q3
      have x0 := (hf2 w.heap.size 0 zz).trans p0
      have x1 := (hf2 w.heap.size 1 zz).trans p1
      have x2 := (hf2 w.heap.size 2 zz).trans p2
      have x3 := (hf2 w.heap.size 3 zz).trans p3
      have m0 := (hc2 b 0 bb).trans e0
      have m1 := (hc2 b 1 bb).trans e1
      have m2 := (hc2 b 2 bb).trans e2
      have m3 := (hc2 b 3 bb).trans e3
      clear hc2 hf2
      go_wp2_with fail
      refine bodyPost_ret (v := .tuple #[fv (adr s 0) (adr s 6) (typ s) (dat s), .int .i64 0]) (by simp [results, Try.results25, go_sem, y0, y1, y2, y3]) rfl ⟨by rw [hp.out], ?_⟩
      repeat (first | exact hB.trans (hb2.mono (by omega)) | refine Below.setCell ?_ (by simp) _)

theorem ref_fparse_any (s : ByteArray) (w : World) (hs : s.size ≤ maxLen) :
    Calls TryQ.prog 25 #[.string s] w fun e w' => e = .returned (pTup s) ∧ Below w.heap.size w w' := by
  by_cases h0 : s.size < 14
  · exact (ref_fparse_len s 7 (by decide) (by rw [if_pos h0]) w hs).mono fun e w' ⟨h1, h2⟩ => ⟨by rw [h1, pTup_bad s 7 (by rw [pE, if_pos h0]) (by decide)], h2⟩
  · by_cases h1 : 114 < s.size
    · exact (ref_fparse_len s 8 (by decide) (by rw [if_neg h0, if_pos h1]) w hs).mono fun e w' ⟨h2, h3⟩ => ⟨by rw [h2, pTup_bad s 8 (by rw [pE, if_neg h0, if_pos h1]) (by decide)], h3⟩
    · exact ref_fparse_mid s w (by omega) (by omega)
theorem ref_fparse_good (r : ByteArray) (w : World) (hr : r.size ≤ maxLen) (h : pE r = 0) :
    Calls TryQ.prog 25 #[.string r] w fun e w' => e = .returned (.tuple #[fv (adr r 0) (adr r 6) (typ r) (dat r), .int .i64 0]) ∧ Below w.heap.size w w' :=
  (ref_fparse_any r w hr).mono fun e w' ⟨h1, h2⟩ => ⟨by rw [h1, pTup_good r h], h2⟩
theorem ref_fparse_bad (r : ByteArray) (n : Int) (w : World) (hr : r.size ≤ maxLen) (h : pE r = n) (hn : n ≠ 0) :
    Calls TryQ.prog 25 #[.string r] w fun e w' => e = .returned (.tuple #[fv 0 0 0 ⟨#[]⟩, .int .i64 n]) ∧ Below w.heap.size w w' :=
  (ref_fparse_any r w hr).mono fun e w' ⟨h1, h2⟩ => ⟨by rw [h1, pTup_bad r n h hn], h2⟩
theorem ref_class_adr (s : ByteArray) (j : Nat) (w : World) :
    Calls TryQ.prog 75 #[.int .i64 (adr s j)] w fun e w' => e = .returned (.int .i64 (classI (adr s j))) ∧ w = w' := ref_class_is _ (adr_right s j) w
end Go.Proofs.Ytlgfogllkoabpaa.QMacP
