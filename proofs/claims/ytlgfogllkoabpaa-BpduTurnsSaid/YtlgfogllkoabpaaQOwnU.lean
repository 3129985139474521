/-
  BpduTurns, over TryQ.
-/
import Derived.Test.YtlgfogllkoabpaaQOwnO
namespace Go.Proofs.Ytlgfogllkoabpaa.QMacP
open Go.RowKit Go.Sort Go.Proofs.Ytlgfogllkoabpaa.BoxP
set_option linter.unusedVariables false
set_option linter.unusedSimpArgs false
set_option maxRecDepth 100000
theorem parse_own (r c b p a : Int) (h : okC r c b p a = true) (w : World) : Calls TryQ.prog 8 #[.string (cBytes r c b p a)] w fun e w' => e = .returned (.tuple #[cv r c b p a, .int .i64 0]) ∧ Below w.heap.size w w' := by
  have := b_parse_any (cBytes r c b p a) w (by rw [cBytes_size]; decide)
  rw [cparse_print r c b p a h] at this
  exact this
/-- A text of which one byte is another one. -/
def turnL (S : ByteArray) (k : Nat) (n : Int) : ByteArray := strOfNums (((nums S).take k ++ [n]) ++ (nums S).drop (k + 1))
theorem turn_data (S : ByteArray) (k : Nat) (n : Int) (hk : k < S.size) : (turnL S k n).data.toList = S.data.toList.set k (UInt8.ofNat n.toNat) := by
  have e : ((nums S).take k ++ [n]) ++ (nums S).drop (k + 1) = (nums S).set k n := by
    rw [List.set_eq_take_append_cons_drop, if_pos (by rw [nums_len]; exact hk), List.append_assoc]; rfl
  have h0 : (strOfNums (nums S)).data.toList = S.data.toList := by rw [strOfNums_nums]
  rw [strOfNums_data] at h0
  rw [turnL, e, strOfNums_data, List.map_set, h0]
theorem turn_size (S : ByteArray) (k : Nat) (n : Int) (hk : k < S.size) : (turnL S k n).size = S.size := by
  rw [← str_size, turn_data S k n hk, List.length_set, str_size]
theorem turn_off (S : ByteArray) (k : Nat) (n : Int) (hk : k < S.size) (i : Nat) (h : i ≠ k) : gb (turnL S k n) i = gb S i := by
  unfold gb
  rw [turn_data S k n hk, List.getD_eq_getElem?_getD, List.getElem?_set_ne (by omega), List.getD_eq_getElem?_getD]
theorem turn_at (S : ByteArray) (k : Nat) (n : Int) (hk : k < S.size) (h0 : 0 ≤ n) (h1 : n < 256) : gb (turnL S k n) k = n := by
  unfold gb
  rw [turn_data S k n hk, List.getD_eq_getElem?_getD, List.getElem?_set_self (by rw [str_size]; exact hk), Option.getD_some, UInt8.toNat_ofNat']
  omega
theorem turn_same (S : ByteArray) (k : Nat) (n : Int) (hk : k < S.size) (h : gb S k = n) : turnL S k n = S := by
  apply ByteArray.ext; apply Array.toList_inj.1
  rw [turn_data S k n hk]
  have hl : k < S.data.toList.length := by rw [str_size]; exact hk
  unfold gb at h
  rw [List.getD_eq_getElem?_getD, List.getElem?_eq_getElem hl, Option.getD_some] at h
  have e : UInt8.ofNat n.toNat = S.data.toList[k] := by rw [← h, Int.toNat_natCast, UInt8.ofNat_toNat]
  rw [e, List.set_getElem_self]
theorem turn_bad (S : ByteArray) (k : Nat) (n : Int) (hs : S.size = 12) (hz : cE S = 0) (hk : k < 12) (h0 : 0 ≤ n) (h1 : n < 256) (hne : turnL S k n ≠ S) : cE (turnL S k n) = 9 := by
  have hk' : k < S.size := by omega
  refine turned S _ k hs (by rw [turn_size S k n hk', hs]) hk (turn_off S k n hk') (cE_zero S hz).2.1 fun e => hne (turn_same S k n hk' ?_)
  rw [turn_at S k n hk' h0 h1] at e
  exact e.symm
theorem turn_lo (S : ByteArray) (k : Nat) (hk : k < S.size) : S.extract 0 k = strOfNums ((nums S).take k) := by
  have := extract_nums (nums S) 0 k (by rw [nums_len]; omega)
  rw [strOfNums_nums, Nat.zero_add, List.drop_zero] at this
  exact this
theorem turn_hi (S : ByteArray) (k : Nat) (hs : S.size = 12) (hk : k < 12) : S.extract (k + 1) S.size = strOfNums ((nums S).drop (k + 1)) := by
  rw [hs]
  have := extract_nums (nums S) (k + 1) (12 - (k + 1)) (by rw [nums_len]; omega)
  rw [strOfNums_nums, show k + 1 + (12 - (k + 1)) = 12 by omega, List.take_of_length_le (by rw [List.length_drop, nums_len]; omega)] at this
  exact this
theorem ne_list (T S : ByteArray) (h : T ≠ S) : (T.toList == S.toList) = false := beq_false_of_ne fun e => h (by rw [ByteArray.toList_eq, ByteArray.toList_eq] at e; exact ByteArray.ext (Array.toList_inj.1 e))
/-- What the operations that put the text together yield. -/
def tuVal (S A D T : ByteArray) (k : Int) (n : Int) (xs : List Int) : Nat → Value
  | 0 => .string S
  | 1 => .int .i64 k
  | 2 => .string A
  | 3 => .int .u8 n
  | 5 => .string (strOfNums [n])
  | 6 => .string (strOfNums (xs ++ [n]))
  | 7 => .string S
  | 8 => .int .i64 k
  | 9 => .int .i64 (k + 1)
  | 10 => .string D
  | _ => .string T
def tuRow (n : Int) (v : Value) (w : World) : Prop := ∃ m, v = .slice (some ⟨m, 0, none⟩) 1 1 ∧ m < w.heap.size ∧ w.cell? ⟨m, 0, none⟩ = some (.int .u8 n)
def tuSp (S A D T : ByteArray) (k : Int) (n : Int) (xs : List Int) (i : Nat) (v : Value) (w : World) : Prop := if i = 4 then tuRow n v w else v = tuVal S A D T k n xs i
theorem tuSp_mono (S A D T : ByteArray) (k : Int) (n : Int) (xs : List Int) (i : Nat) (v : Value) (w w' : World) (h : tuSp S A D T k n xs i v w) (hb : Below w.heap.size w w') : tuSp S A D T k n xs i v w' := by
  unfold tuSp at *
  split
  · rw [if_pos (by assumption)] at h
    obtain ⟨b, rfl, hl, h0⟩ := h
    exact ⟨b, rfl, Nat.lt_of_lt_of_le hl hb.size, (hb.cell (p := ⟨b, 0, none⟩) hl).trans h0⟩
  · rw [if_neg (by assumption)] at h; exact h
def tuSlot (i : Nat) : Nat := if i = 12 then 9 else i + 33
set_option maxHeartbeats 8000000 in
theorem turns_same (r c b p a : Int) (at1 n : Int) (w : World) (k : Nat) (m : Int) (hok : okC r c b p a = true) (hm : at1.tmod 12 = m) (hm1 : -12 < m) (hm2 : m < 12) (hk : (m + 12).tmod 12 = (k : Int)) (hk1 : k < 12) (S A D T : ByteArray) (hS : cBytes r c b p a = S) (hz : (S.size : Int) = 12) (xs ys : List Int) (hA : S.extract 0 k = A) (hA2 : A = strOfNums xs) (hD : S.extract (k + 1) S.size = D) (hD2 : D = strOfNums ys) (hT : T = strOfNums ((xs ++ [n]) ++ ys)) (hxs : xs.length ≤ 12) (hys : ys.length ≤ 12)
    (cT : Hid (∀ W, Calls TryQ.prog 8 #[.string T] W fun e w' => e = .returned (.tuple #[cv r c b p a, .int .i64 0]) ∧ Below W.heap.size W w')) (hts : (T.toList == S.toList) = true) : Calls TryQ.prog 5 #[cv r c b p a, .int .i64 at1, .int .u8 n] w fun e w' => e = .returned (.bool true) ∧ Below w.heap.size w w' := by
  have cP := Lib.hid (fun W => b_print_yes _ _ _ _ _ W hok)
  rw [hS] at cP
  have v1 : IntKind.i64.wrap m = m := IntWalk.i64_in _ (by omega)
  have v2 : IntKind.i64.wrap (m + 12) = m + 12 := IntWalk.i64_in _ (by omega)
  have v3 : IntKind.i64.wrap (k : Int) = (k : Int) := IntWalk.i64_in _ (by omega)
  have v4 : IntKind.i64.wrap ((k : Int) + 1) = (k : Int) + 1 := IntWalk.i64_in _ (by omega)
  have q1 : ∀ w, (Op.stringOp .add A (strOfNums [n])).run TryQ.prog w = .ok (.string (strOfNums (xs ++ [n]))) w := fun w => by rw [hA2]; exact str_add _ _ w (by simp; omega)
  have q2 : ∀ w, (Op.stringOp .add (strOfNums (xs ++ [n])) D).run TryQ.prog w = .ok (.string T) w := fun w => by rw [hD2, hT]; exact str_add _ _ w (by simp; omega)
  have f1 : (k : Int) ≤ 12 := by omega
  have f2 : 0 ≤ (k : Int) + 1 := by omega
  have f3 : (k : Int) + 1 ≤ 12 := by omega
  clear hok hS hA2 hD2 hT hxs hys
  replace hts := Lib.hid hts
  go_enter TryQ.func5, Try.ntmps5
  go_wp2_with fail
  obtain ⟨w1, hw1⟩ : ∃ W, W = w.alloc (.cells #[.int .i64 r, .int .i64 c, .int .i64 b, .int .i64 p, .int .i64 a] 25) := ⟨_, rfl⟩
  have bw1 : Below w.heap.size w w1 := by rw [hw1]; exact (Below.refl _ _).alloc (Nat.le_refl _) _
  have Xw1 : Bx w1 w.heap.size 25 #[.int .i64 r, .int .i64 c, .int .i64 b, .int .i64 p, .int .i64 a] := by rw [hw1]; exact Bx.new _ _ _ rfl
  rw [← hw1]
  clear hw1
  have X_w1 := Lib.hid (Xw1)
  have z0_w1 : w.heap.size < w1.heap.size := Xw1.lt
  clear Xw1
  go_at_call 6
  (with_reducible refine (cP.out _).mono ?_)
  rintro e w2 ⟨rfl, hb2⟩
  have X_w2 := Lib.hid (X_w1.out.below hb2)
  have z0_w2 : w.heap.size < w2.heap.size := Nat.lt_of_lt_of_le z0_w1 hb2.size
  have B_w2 := bt bw1 hb2
  clear X_w1 z0_w1 bw1 hb2
  go_wp2_with fail
  clear v1 v2 hm hk v3
  refine wp_region_ops (by kernel_rfl) tuSlot (by kernel_rfl) (by kernel_rfl) (tuSp S A D T (k : Int) n xs) (tuSp_mono S A D T (k : Int) n xs) ?_ ?_
  · refine ⟨?_, ?_, ?_, ?_, ?_, ?_, ?_, ?_, ?_, ?_, ?_, ?_, ?_, trivial⟩
    · as_aux_lemma =>
        intro a9 w1 K hb hdep hk hK
        have h1 : a9.tmps.getD 7 undef = .string S := hk 7 (by kernel_rfl)
        go_simp
        exact hK _ _ rfl (Below.refl _ _)
    · as_aux_lemma =>
        intro a9 w1 K hb hdep hk hK
        have h1 : a9.tmps.getD 1 undef = .int .i64 (k : Int) := hk 1 (by kernel_rfl)
        go_simp
        exact hK _ _ rfl (Below.refl _ _)
    · as_aux_lemma =>
        intro a9 w1 K hb hdep hk hK
        have h1 : a9.tmps.getD 33 undef = .string S := hdep ⟨0, .data⟩ (by simp) rfl
        have h2 : a9.tmps.getD 34 undef = .int .i64 (k : Int) := hdep ⟨1, .data⟩ (by simp) rfl
        clear hdep hk
        go_simp
        exact hK _ _ rfl (Below.refl _ _)
    · as_aux_lemma =>
        intro a9 w1 K hb hdep hk hK
        have h1 : a9.tmps.getD 2 undef = .int .u8 n := hk 2 (by kernel_rfl)
        go_simp
        exact hK _ _ rfl (Below.refl _ _)
    · as_aux_lemma =>
        intro a9 w1 K hb hdep hk hK
        have h1 : a9.tmps.getD 36 undef = .int .u8 n := hdep ⟨3, .data⟩ (by simp) rfl
        have g1 : a9.tmps[36]?.getD undef = .int .u8 n := by simpa [Array.getD_eq_getD_getElem?] using h1
        clear h1 hdep hk
        go_simp
        exact hK _ (w1.alloc (.cells #[.int .u8 n] 5)) ⟨w1.heap.size, rfl, by simp, by go_simp⟩ ((Below.refl _ _).alloc (Nat.le_refl _) _)
    · as_aux_lemma =>
        intro a9 w1 K hb hdep hk hK
        obtain ⟨b, hv, hl, e0⟩ : tuRow n (a9.tmps.getD 37 undef) w1 := hdep ⟨4, .data⟩ (by simp) rfl
        have hc := conv_at w1 b n e0
        clear e0 hdep hk
        go_simp
        exact hK _ _ rfl (Below.refl _ _)
    · as_aux_lemma =>
        intro a9 w1 K hb hdep hk hK
        have h1 : a9.tmps.getD 35 undef = .string A := hdep ⟨2, .data⟩ (by simp) rfl
        have h2 : a9.tmps.getD 38 undef = .string (strOfNums [n]) := hdep ⟨5, .data⟩ (by simp) rfl
        clear hdep hk
        go_simp
        exact hK _ _ rfl (Below.refl _ _)
    · as_aux_lemma =>
        intro a9 w1 K hb hdep hk hK
        have h1 : a9.tmps.getD 7 undef = .string S := hk 7 (by kernel_rfl)
        go_simp
        exact hK _ _ rfl (Below.refl _ _)
    · as_aux_lemma =>
        intro a9 w1 K hb hdep hk hK
        have h1 : a9.tmps.getD 1 undef = .int .i64 (k : Int) := hk 1 (by kernel_rfl)
        go_simp
        exact hK _ _ rfl (Below.refl _ _)
    · as_aux_lemma =>
        intro a9 w1 K hb hdep hk hK
        have h1 : a9.tmps.getD 41 undef = .int .i64 (k : Int) := hdep ⟨8, .data⟩ (by simp) rfl
        clear hdep hk
        go_simp
        exact hK _ _ rfl (Below.refl _ _)
    · as_aux_lemma =>
        intro a9 w1 K hb hdep hk hK
        have h1 : a9.tmps.getD 40 undef = .string S := hdep ⟨7, .data⟩ (by simp) rfl
        have h2 : a9.tmps.getD 42 undef = .int .i64 ((k : Int) + 1) := hdep ⟨9, .data⟩ (by simp) rfl
        clear hdep hk
        go_simp
        exact hK _ _ rfl (Below.refl _ _)
    · as_aux_lemma =>
        intro a9 w1 K hb hdep hk hK
        have h1 : a9.tmps.getD 39 undef = .string (strOfNums (xs ++ [n])) := hdep ⟨6, .data⟩ (by simp) rfl
        have h2 : a9.tmps.getD 43 undef = .string D := hdep ⟨10, .data⟩ (by simp) rfl
        clear hdep hk
        go_simp
        exact hK _ _ rfl (Below.refl _ _)
    · as_aux_lemma =>
        intro a9 w1 K hb hdep hk hK
        have h1 : a9.tmps.getD 44 undef = .string T := hdep ⟨11, .data⟩ (by simp) rfl
        clear hdep hk
        go_simp
        exact hK _ _ rfl (Below.refl _ _)
  intro af w3 hqw3 hsp hk hn hdf
  have hx12 : af.tmps.getD 9 undef = .string T := hsp 12 (by decide)
  clear hsp
  have s3 : af.tmps.getD 3 undef = .pointer (some ⟨w.heap.size, 0, none⟩) := hk 3 (by kernel_rfl)
  have s6 : af.tmps.getD 6 undef = .bool false := hk 6 (by kernel_rfl)
  have s7 : af.tmps.getD 7 undef = .string S := hk 7 (by kernel_rfl)
  have s8 : af.tmps.getD 8 undef = .int .i64 0 := hk 8 (by kernel_rfl)
  have s9 : af.tmps.getD 9 undef = .string T := hx12
  clear hk hx12
  obtain ⟨tm, df⟩ := af
  have e := arr_out tm 73 hn
  replace e : tm = #[tm.getD 0 undef, tm.getD 1 undef, tm.getD 2 undef, tm.getD 3 undef, tm.getD 4 undef, tm.getD 5 undef, tm.getD 6 undef, tm.getD 7 undef, tm.getD 8 undef, tm.getD 9 undef, tm.getD 10 undef, tm.getD 11 undef, tm.getD 12 undef, tm.getD 13 undef, tm.getD 14 undef, tm.getD 15 undef, tm.getD 16 undef, tm.getD 17 undef, tm.getD 18 undef, tm.getD 19 undef, tm.getD 20 undef, tm.getD 21 undef, tm.getD 22 undef, tm.getD 23 undef, tm.getD 24 undef, tm.getD 25 undef, tm.getD 26 undef, tm.getD 27 undef, tm.getD 28 undef, tm.getD 29 undef, tm.getD 30 undef, tm.getD 31 undef, tm.getD 32 undef, tm.getD 33 undef, tm.getD 34 undef, tm.getD 35 undef, tm.getD 36 undef, tm.getD 37 undef, tm.getD 38 undef, tm.getD 39 undef, tm.getD 40 undef, tm.getD 41 undef, tm.getD 42 undef, tm.getD 43 undef, tm.getD 44 undef, tm.getD 45 undef, tm.getD 46 undef, tm.getD 47 undef, tm.getD 48 undef, tm.getD 49 undef, tm.getD 50 undef, tm.getD 51 undef, tm.getD 52 undef, tm.getD 53 undef, tm.getD 54 undef, tm.getD 55 undef, tm.getD 56 undef, tm.getD 57 undef, tm.getD 58 undef, tm.getD 59 undef, tm.getD 60 undef, tm.getD 61 undef, tm.getD 62 undef, tm.getD 63 undef, tm.getD 64 undef, tm.getD 65 undef, tm.getD 66 undef, tm.getD 67 undef, tm.getD 68 undef, tm.getD 69 undef, tm.getD 70 undef, tm.getD 71 undef, tm.getD 72 undef] := e
  simp only at s3 s6 s7 s8 s9 hdf
  rw [s3, s6, s7, s8, s9] at e
  subst hdf
  clear s3 s6 s7 s8 s9 hn
  generalize tm.getD 0 undef = u0 at e
  generalize tm.getD 1 undef = u1 at e
  generalize tm.getD 2 undef = u2 at e
  generalize tm.getD 4 undef = u4 at e
  generalize tm.getD 5 undef = u5 at e
  generalize tm.getD 10 undef = u10 at e
  generalize tm.getD 11 undef = u11 at e
  generalize tm.getD 12 undef = u12 at e
  generalize tm.getD 13 undef = u13 at e
  generalize tm.getD 14 undef = u14 at e
  generalize tm.getD 15 undef = u15 at e
  generalize tm.getD 16 undef = u16 at e
  generalize tm.getD 17 undef = u17 at e
  generalize tm.getD 18 undef = u18 at e
  generalize tm.getD 19 undef = u19 at e
  generalize tm.getD 20 undef = u20 at e
  generalize tm.getD 21 undef = u21 at e
  generalize tm.getD 22 undef = u22 at e
  generalize tm.getD 23 undef = u23 at e
  generalize tm.getD 24 undef = u24 at e
  generalize tm.getD 25 undef = u25 at e
  generalize tm.getD 26 undef = u26 at e
  generalize tm.getD 27 undef = u27 at e
  generalize tm.getD 28 undef = u28 at e
  generalize tm.getD 29 undef = u29 at e
  generalize tm.getD 30 undef = u30 at e
  generalize tm.getD 31 undef = u31 at e
  generalize tm.getD 32 undef = u32 at e
  generalize tm.getD 33 undef = u33 at e
  generalize tm.getD 34 undef = u34 at e
  generalize tm.getD 35 undef = u35 at e
  generalize tm.getD 36 undef = u36 at e
  generalize tm.getD 37 undef = u37 at e
  generalize tm.getD 38 undef = u38 at e
  generalize tm.getD 39 undef = u39 at e
  generalize tm.getD 40 undef = u40 at e
  generalize tm.getD 41 undef = u41 at e
  generalize tm.getD 42 undef = u42 at e
  generalize tm.getD 43 undef = u43 at e
  generalize tm.getD 44 undef = u44 at e
  generalize tm.getD 45 undef = u45 at e
  generalize tm.getD 46 undef = u46 at e
  generalize tm.getD 47 undef = u47 at e
  generalize tm.getD 48 undef = u48 at e
  generalize tm.getD 49 undef = u49 at e
  generalize tm.getD 50 undef = u50 at e
  generalize tm.getD 51 undef = u51 at e
  generalize tm.getD 52 undef = u52 at e
  generalize tm.getD 53 undef = u53 at e
  generalize tm.getD 54 undef = u54 at e
  generalize tm.getD 55 undef = u55 at e
  generalize tm.getD 56 undef = u56 at e
  generalize tm.getD 57 undef = u57 at e
  generalize tm.getD 58 undef = u58 at e
  generalize tm.getD 59 undef = u59 at e
  generalize tm.getD 60 undef = u60 at e
  generalize tm.getD 61 undef = u61 at e
  generalize tm.getD 62 undef = u62 at e
  generalize tm.getD 63 undef = u63 at e
  generalize tm.getD 64 undef = u64 at e
  generalize tm.getD 65 undef = u65 at e
  generalize tm.getD 66 undef = u66 at e
  generalize tm.getD 67 undef = u67 at e
  generalize tm.getD 68 undef = u68 at e
  generalize tm.getD 69 undef = u69 at e
  generalize tm.getD 70 undef = u70 at e
  generalize tm.getD 71 undef = u71 at e
  generalize tm.getD 72 undef = u72 at e
  subst e
  have X_w3 := Lib.hid (X_w2.out.below hqw3)
  have z0_w3 : w.heap.size < w3.heap.size := Nat.lt_of_lt_of_le z0_w2 hqw3.size
  have B_w3 := bt B_w2 hqw3
  clear X_w2 z0_w2 B_w2 hqw3
  show Exit.then _ _ _ _ _
  simp only [Exit.then]
  replace hts := hts.out
  go_wp2_with fail
  go_at_call 8
  (with_reducible refine (cT.out _).mono ?_)
  rintro e w4 ⟨rfl, hb4⟩
  have X_w4 := Lib.hid (X_w3.out.below hb4)
  have z0_w4 : w.heap.size < w4.heap.size := Nat.lt_of_lt_of_le z0_w3 hb4.size
  have B_w4 := bt B_w3 hb4
  clear X_w3 z0_w3 B_w3 hb4
  go_wp2_with fail
  obtain ⟨w5, hw5⟩ : ∃ W, W = w4.alloc (.cells #[.int .i64 r, .int .i64 c, .int .i64 b, .int .i64 p, .int .i64 a] 25) := ⟨_, rfl⟩
  have bw5 : Below w4.heap.size w4 w5 := by rw [hw5]; exact (Below.refl _ _).alloc (Nat.le_refl _) _
  have Xw5 : Bx w5 w4.heap.size 25 #[.int .i64 r, .int .i64 c, .int .i64 b, .int .i64 p, .int .i64 a] := by rw [hw5]; exact Bx.new _ _ _ rfl
  rw [← hw5]
  clear hw5
  have X_w5 := Lib.hid (X_w4.out.below bw5)
  have D2_w5 := Lib.hid (Xw5)
  have z0_w5 : w.heap.size < w5.heap.size := Nat.lt_of_lt_of_le z0_w4 bw5.size
  have B_w5 := bt B_w4 bw5
  clear X_w4 z0_w4 B_w4 bw5
  have z1_w5 : w4.heap.size < w5.heap.size := Xw5.lt
  clear Xw5
  go_wp2_with fail
  go_at_call 14
  (with_reducible refine (alive_any _).mono ?_)
  rintro e w6 ⟨rfl, hb6⟩
  have X_w6 := Lib.hid (X_w5.out.below hb6)
  have D2_w6 := Lib.hid (D2_w5.out.below hb6)
  have z0_w6 : w.heap.size < w6.heap.size := Nat.lt_of_lt_of_le z0_w5 hb6.size
  have z1_w6 : w4.heap.size < w6.heap.size := Nat.lt_of_lt_of_le z1_w5 hb6.size
  have B_w6 := bt B_w5 hb6
  clear X_w5 D2_w5 z0_w5 z1_w5 B_w5 hb6
  have o_X_0 := X_w6.out.c (i := 0) rfl
  have o_X_1 := X_w6.out.c (i := 1) rfl
  have o_X_2 := X_w6.out.c (i := 2) rfl
  have o_X_3 := X_w6.out.c (i := 3) rfl
  have o_X_4 := X_w6.out.c (i := 4) rfl
  have o_D2_0 := D2_w6.out.c (i := 0) rfl
  have o_D2_1 := D2_w6.out.c (i := 1) rfl
  have o_D2_2 := D2_w6.out.c (i := 2) rfl
  have o_D2_3 := D2_w6.out.c (i := 3) rfl
  have o_D2_4 := D2_w6.out.c (i := 4) rfl
  go_wp2_with fail
  go_ret
  exact ⟨rfl, B_w6⟩
set_option maxHeartbeats 8000000 in
theorem turns_other (r c b p a : Int) (at1 n : Int) (w : World) (k : Nat) (m : Int) (hok : okC r c b p a = true) (hm : at1.tmod 12 = m) (hm1 : -12 < m) (hm2 : m < 12) (hk : (m + 12).tmod 12 = (k : Int)) (hk1 : k < 12) (S A D T : ByteArray) (hS : cBytes r c b p a = S) (hz : (S.size : Int) = 12) (xs ys : List Int) (hA : S.extract 0 k = A) (hA2 : A = strOfNums xs) (hD : S.extract (k + 1) S.size = D) (hD2 : D = strOfNums ys) (hT : T = strOfNums ((xs ++ [n]) ++ ys)) (hxs : xs.length ≤ 12) (hys : ys.length ≤ 12)
    (cT : Hid (∀ W, Calls TryQ.prog 8 #[.string T] W fun e w' => e = .returned (.tuple #[cv 0 0 0 0 0, .int .i64 9]) ∧ Below W.heap.size W w')) (hts : (T.toList == S.toList) = false) : Calls TryQ.prog 5 #[cv r c b p a, .int .i64 at1, .int .u8 n] w fun e w' => e = .returned (.bool true) ∧ Below w.heap.size w w' := by
  have cP := Lib.hid (fun W => b_print_yes _ _ _ _ _ W hok)
  rw [hS] at cP
  have v1 : IntKind.i64.wrap m = m := IntWalk.i64_in _ (by omega)
  have v2 : IntKind.i64.wrap (m + 12) = m + 12 := IntWalk.i64_in _ (by omega)
  have v3 : IntKind.i64.wrap (k : Int) = (k : Int) := IntWalk.i64_in _ (by omega)
  have v4 : IntKind.i64.wrap ((k : Int) + 1) = (k : Int) + 1 := IntWalk.i64_in _ (by omega)
  have q1 : ∀ w, (Op.stringOp .add A (strOfNums [n])).run TryQ.prog w = .ok (.string (strOfNums (xs ++ [n]))) w := fun w => by rw [hA2]; exact str_add _ _ w (by simp; omega)
  have q2 : ∀ w, (Op.stringOp .add (strOfNums (xs ++ [n])) D).run TryQ.prog w = .ok (.string T) w := fun w => by rw [hD2, hT]; exact str_add _ _ w (by simp; omega)
  have f1 : (k : Int) ≤ 12 := by omega
  have f2 : 0 ≤ (k : Int) + 1 := by omega
  have f3 : (k : Int) + 1 ≤ 12 := by omega
  clear hok hS hA2 hD2 hT hxs hys
  replace hts := Lib.hid hts
  go_enter TryQ.func5, Try.ntmps5
  go_wp2_with fail
  obtain ⟨w1, hw1⟩ : ∃ W, W = w.alloc (.cells #[.int .i64 r, .int .i64 c, .int .i64 b, .int .i64 p, .int .i64 a] 25) := ⟨_, rfl⟩
  have bw1 : Below w.heap.size w w1 := by rw [hw1]; exact (Below.refl _ _).alloc (Nat.le_refl _) _
  have Xw1 : Bx w1 w.heap.size 25 #[.int .i64 r, .int .i64 c, .int .i64 b, .int .i64 p, .int .i64 a] := by rw [hw1]; exact Bx.new _ _ _ rfl
  rw [← hw1]
  clear hw1
  have X_w1 := Lib.hid (Xw1)
  have z0_w1 : w.heap.size < w1.heap.size := Xw1.lt
  clear Xw1
  go_at_call 6
  (with_reducible refine (cP.out _).mono ?_)
  rintro e w2 ⟨rfl, hb2⟩
  have X_w2 := Lib.hid (X_w1.out.below hb2)
  have z0_w2 : w.heap.size < w2.heap.size := Nat.lt_of_lt_of_le z0_w1 hb2.size
  have B_w2 := bt bw1 hb2
  clear X_w1 z0_w1 bw1 hb2
  go_wp2_with fail
  clear v1 v2 hm hk v3
  refine wp_region_ops (by kernel_rfl) tuSlot (by kernel_rfl) (by kernel_rfl) (tuSp S A D T (k : Int) n xs) (tuSp_mono S A D T (k : Int) n xs) ?_ ?_
  · refine ⟨?_, ?_, ?_, ?_, ?_, ?_, ?_, ?_, ?_, ?_, ?_, ?_, ?_, trivial⟩
    · as_aux_lemma =>
        intro a9 w1 K hb hdep hk hK
        have h1 : a9.tmps.getD 7 undef = .string S := hk 7 (by kernel_rfl)
        go_simp
        exact hK _ _ rfl (Below.refl _ _)
    · as_aux_lemma =>
        intro a9 w1 K hb hdep hk hK
        have h1 : a9.tmps.getD 1 undef = .int .i64 (k : Int) := hk 1 (by kernel_rfl)
        go_simp
        exact hK _ _ rfl (Below.refl _ _)
    · as_aux_lemma =>
        intro a9 w1 K hb hdep hk hK
        have h1 : a9.tmps.getD 33 undef = .string S := hdep ⟨0, .data⟩ (by simp) rfl
        have h2 : a9.tmps.getD 34 undef = .int .i64 (k : Int) := hdep ⟨1, .data⟩ (by simp) rfl
        clear hdep hk
        go_simp
        exact hK _ _ rfl (Below.refl _ _)
    · as_aux_lemma =>
        intro a9 w1 K hb hdep hk hK
        have h1 : a9.tmps.getD 2 undef = .int .u8 n := hk 2 (by kernel_rfl)
        go_simp
        exact hK _ _ rfl (Below.refl _ _)
    · as_aux_lemma =>
        intro a9 w1 K hb hdep hk hK
        have h1 : a9.tmps.getD 36 undef = .int .u8 n := hdep ⟨3, .data⟩ (by simp) rfl
        have g1 : a9.tmps[36]?.getD undef = .int .u8 n := by simpa [Array.getD_eq_getD_getElem?] using h1
        clear h1 hdep hk
        go_simp
        exact hK _ (w1.alloc (.cells #[.int .u8 n] 5)) ⟨w1.heap.size, rfl, by simp, by go_simp⟩ ((Below.refl _ _).alloc (Nat.le_refl _) _)
    · as_aux_lemma =>
        intro a9 w1 K hb hdep hk hK
        obtain ⟨b, hv, hl, e0⟩ : tuRow n (a9.tmps.getD 37 undef) w1 := hdep ⟨4, .data⟩ (by simp) rfl
        have hc := conv_at w1 b n e0
        clear e0 hdep hk
        go_simp
        exact hK _ _ rfl (Below.refl _ _)
    · as_aux_lemma =>
        intro a9 w1 K hb hdep hk hK
        have h1 : a9.tmps.getD 35 undef = .string A := hdep ⟨2, .data⟩ (by simp) rfl
        have h2 : a9.tmps.getD 38 undef = .string (strOfNums [n]) := hdep ⟨5, .data⟩ (by simp) rfl
        clear hdep hk
        go_simp
        exact hK _ _ rfl (Below.refl _ _)
    · as_aux_lemma =>
        intro a9 w1 K hb hdep hk hK
        have h1 : a9.tmps.getD 7 undef = .string S := hk 7 (by kernel_rfl)
        go_simp
        exact hK _ _ rfl (Below.refl _ _)
    · as_aux_lemma =>
        intro a9 w1 K hb hdep hk hK
        have h1 : a9.tmps.getD 1 undef = .int .i64 (k : Int) := hk 1 (by kernel_rfl)
        go_simp
        exact hK _ _ rfl (Below.refl _ _)
    · as_aux_lemma =>
        intro a9 w1 K hb hdep hk hK
        have h1 : a9.tmps.getD 41 undef = .int .i64 (k : Int) := hdep ⟨8, .data⟩ (by simp) rfl
        clear hdep hk
        go_simp
        exact hK _ _ rfl (Below.refl _ _)
    · as_aux_lemma =>
        intro a9 w1 K hb hdep hk hK
        have h1 : a9.tmps.getD 40 undef = .string S := hdep ⟨7, .data⟩ (by simp) rfl
        have h2 : a9.tmps.getD 42 undef = .int .i64 ((k : Int) + 1) := hdep ⟨9, .data⟩ (by simp) rfl
        clear hdep hk
        go_simp
        exact hK _ _ rfl (Below.refl _ _)
    · as_aux_lemma =>
        intro a9 w1 K hb hdep hk hK
        have h1 : a9.tmps.getD 39 undef = .string (strOfNums (xs ++ [n])) := hdep ⟨6, .data⟩ (by simp) rfl
        have h2 : a9.tmps.getD 43 undef = .string D := hdep ⟨10, .data⟩ (by simp) rfl
        clear hdep hk
        go_simp
        exact hK _ _ rfl (Below.refl _ _)
    · as_aux_lemma =>
        intro a9 w1 K hb hdep hk hK
        have h1 : a9.tmps.getD 44 undef = .string T := hdep ⟨11, .data⟩ (by simp) rfl
        clear hdep hk
        go_simp
        exact hK _ _ rfl (Below.refl _ _)
  intro af w3 hqw3 hsp hk hn hdf
  have hx12 : af.tmps.getD 9 undef = .string T := hsp 12 (by decide)
  clear hsp
  have s3 : af.tmps.getD 3 undef = .pointer (some ⟨w.heap.size, 0, none⟩) := hk 3 (by kernel_rfl)
  have s6 : af.tmps.getD 6 undef = .bool false := hk 6 (by kernel_rfl)
  have s7 : af.tmps.getD 7 undef = .string S := hk 7 (by kernel_rfl)
  have s8 : af.tmps.getD 8 undef = .int .i64 0 := hk 8 (by kernel_rfl)
  have s9 : af.tmps.getD 9 undef = .string T := hx12
  clear hk hx12
  obtain ⟨tm, df⟩ := af
  have e := arr_out tm 73 hn
  replace e : tm = #[tm.getD 0 undef, tm.getD 1 undef, tm.getD 2 undef, tm.getD 3 undef, tm.getD 4 undef, tm.getD 5 undef, tm.getD 6 undef, tm.getD 7 undef, tm.getD 8 undef, tm.getD 9 undef, tm.getD 10 undef, tm.getD 11 undef, tm.getD 12 undef, tm.getD 13 undef, tm.getD 14 undef, tm.getD 15 undef, tm.getD 16 undef, tm.getD 17 undef, tm.getD 18 undef, tm.getD 19 undef, tm.getD 20 undef, tm.getD 21 undef, tm.getD 22 undef, tm.getD 23 undef, tm.getD 24 undef, tm.getD 25 undef, tm.getD 26 undef, tm.getD 27 undef, tm.getD 28 undef, tm.getD 29 undef, tm.getD 30 undef, tm.getD 31 undef, tm.getD 32 undef, tm.getD 33 undef, tm.getD 34 undef, tm.getD 35 undef, tm.getD 36 undef, tm.getD 37 undef, tm.getD 38 undef, tm.getD 39 undef, tm.getD 40 undef, tm.getD 41 undef, tm.getD 42 undef, tm.getD 43 undef, tm.getD 44 undef, tm.getD 45 undef, tm.getD 46 undef, tm.getD 47 undef, tm.getD 48 undef, tm.getD 49 undef, tm.getD 50 undef, tm.getD 51 undef, tm.getD 52 undef, tm.getD 53 undef, tm.getD 54 undef, tm.getD 55 undef, tm.getD 56 undef, tm.getD 57 undef, tm.getD 58 undef, tm.getD 59 undef, tm.getD 60 undef, tm.getD 61 undef, tm.getD 62 undef, tm.getD 63 undef, tm.getD 64 undef, tm.getD 65 undef, tm.getD 66 undef, tm.getD 67 undef, tm.getD 68 undef, tm.getD 69 undef, tm.getD 70 undef, tm.getD 71 undef, tm.getD 72 undef] := e
  simp only at s3 s6 s7 s8 s9 hdf
  rw [s3, s6, s7, s8, s9] at e
  subst hdf
  clear s3 s6 s7 s8 s9 hn
  generalize tm.getD 0 undef = u0 at e
  generalize tm.getD 1 undef = u1 at e
  generalize tm.getD 2 undef = u2 at e
  generalize tm.getD 4 undef = u4 at e
  generalize tm.getD 5 undef = u5 at e
  generalize tm.getD 10 undef = u10 at e
  generalize tm.getD 11 undef = u11 at e
  generalize tm.getD 12 undef = u12 at e
  generalize tm.getD 13 undef = u13 at e
  generalize tm.getD 14 undef = u14 at e
  generalize tm.getD 15 undef = u15 at e
  generalize tm.getD 16 undef = u16 at e
  generalize tm.getD 17 undef = u17 at e
  generalize tm.getD 18 undef = u18 at e
  generalize tm.getD 19 undef = u19 at e
  generalize tm.getD 20 undef = u20 at e
  generalize tm.getD 21 undef = u21 at e
  generalize tm.getD 22 undef = u22 at e
  generalize tm.getD 23 undef = u23 at e
  generalize tm.getD 24 undef = u24 at e
  generalize tm.getD 25 undef = u25 at e
  generalize tm.getD 26 undef = u26 at e
  generalize tm.getD 27 undef = u27 at e
  generalize tm.getD 28 undef = u28 at e
  generalize tm.getD 29 undef = u29 at e
  generalize tm.getD 30 undef = u30 at e
  generalize tm.getD 31 undef = u31 at e
  generalize tm.getD 32 undef = u32 at e
  generalize tm.getD 33 undef = u33 at e
  generalize tm.getD 34 undef = u34 at e
  generalize tm.getD 35 undef = u35 at e
  generalize tm.getD 36 undef = u36 at e
  generalize tm.getD 37 undef = u37 at e
  generalize tm.getD 38 undef = u38 at e
  generalize tm.getD 39 undef = u39 at e
  generalize tm.getD 40 undef = u40 at e
  generalize tm.getD 41 undef = u41 at e
  generalize tm.getD 42 undef = u42 at e
  generalize tm.getD 43 undef = u43 at e
  generalize tm.getD 44 undef = u44 at e
  generalize tm.getD 45 undef = u45 at e
  generalize tm.getD 46 undef = u46 at e
  generalize tm.getD 47 undef = u47 at e
  generalize tm.getD 48 undef = u48 at e
  generalize tm.getD 49 undef = u49 at e
  generalize tm.getD 50 undef = u50 at e
  generalize tm.getD 51 undef = u51 at e
  generalize tm.getD 52 undef = u52 at e
  generalize tm.getD 53 undef = u53 at e
  generalize tm.getD 54 undef = u54 at e
  generalize tm.getD 55 undef = u55 at e
  generalize tm.getD 56 undef = u56 at e
  generalize tm.getD 57 undef = u57 at e
  generalize tm.getD 58 undef = u58 at e
  generalize tm.getD 59 undef = u59 at e
  generalize tm.getD 60 undef = u60 at e
  generalize tm.getD 61 undef = u61 at e
  generalize tm.getD 62 undef = u62 at e
  generalize tm.getD 63 undef = u63 at e
  generalize tm.getD 64 undef = u64 at e
  generalize tm.getD 65 undef = u65 at e
  generalize tm.getD 66 undef = u66 at e
  generalize tm.getD 67 undef = u67 at e
  generalize tm.getD 68 undef = u68 at e
  generalize tm.getD 69 undef = u69 at e
  generalize tm.getD 70 undef = u70 at e
  generalize tm.getD 71 undef = u71 at e
  generalize tm.getD 72 undef = u72 at e
  subst e
  have X_w3 := Lib.hid (X_w2.out.below hqw3)
  have z0_w3 : w.heap.size < w3.heap.size := Nat.lt_of_lt_of_le z0_w2 hqw3.size
  have B_w3 := bt B_w2 hqw3
  clear X_w2 z0_w2 B_w2 hqw3
  show Exit.then _ _ _ _ _
  simp only [Exit.then]
  replace hts := hts.out
  go_wp2_with fail
  go_at_call 8
  (with_reducible refine (cT.out _).mono ?_)
  rintro e w4 ⟨rfl, hb4⟩
  have X_w4 := Lib.hid (X_w3.out.below hb4)
  have z0_w4 : w.heap.size < w4.heap.size := Nat.lt_of_lt_of_le z0_w3 hb4.size
  have B_w4 := bt B_w3 hb4
  clear X_w3 z0_w3 B_w3 hb4
  go_wp2_with fail
  obtain ⟨w5, hw5⟩ : ∃ W, W = w4.alloc (.cells #[.int .i64 0, .int .i64 0, .int .i64 0, .int .i64 0, .int .i64 0] 25) := ⟨_, rfl⟩
  have bw5 : Below w4.heap.size w4 w5 := by rw [hw5]; exact (Below.refl _ _).alloc (Nat.le_refl _) _
  have Xw5 : Bx w5 w4.heap.size 25 #[.int .i64 0, .int .i64 0, .int .i64 0, .int .i64 0, .int .i64 0] := by rw [hw5]; exact Bx.new _ _ _ rfl
  rw [← hw5]
  clear hw5
  have X_w5 := Lib.hid (X_w4.out.below bw5)
  have D2_w5 := Lib.hid (Xw5)
  have z0_w5 : w.heap.size < w5.heap.size := Nat.lt_of_lt_of_le z0_w4 bw5.size
  have B_w5 := bt B_w4 bw5
  clear X_w4 z0_w4 B_w4 bw5
  have z1_w5 : w4.heap.size < w5.heap.size := Xw5.lt
  clear Xw5
  go_wp2_with fail
  go_at_call 14
  (with_reducible refine (alive_any _).mono ?_)
  rintro e w6 ⟨rfl, hb6⟩
  have X_w6 := Lib.hid (X_w5.out.below hb6)
  have D2_w6 := Lib.hid (D2_w5.out.below hb6)
  have z0_w6 : w.heap.size < w6.heap.size := Nat.lt_of_lt_of_le z0_w5 hb6.size
  have z1_w6 : w4.heap.size < w6.heap.size := Nat.lt_of_lt_of_le z1_w5 hb6.size
  have B_w6 := bt B_w5 hb6
  clear X_w5 D2_w5 z0_w5 z1_w5 B_w5 hb6
  have o_X_0 := X_w6.out.c (i := 0) rfl
  have o_X_1 := X_w6.out.c (i := 1) rfl
  have o_X_2 := X_w6.out.c (i := 2) rfl
  have o_X_3 := X_w6.out.c (i := 3) rfl
  have o_X_4 := X_w6.out.c (i := 4) rfl
  have o_D2_0 := D2_w6.out.c (i := 0) rfl
  have o_D2_1 := D2_w6.out.c (i := 1) rfl
  have o_D2_2 := D2_w6.out.c (i := 2) rfl
  have o_D2_3 := D2_w6.out.c (i := 3) rfl
  have o_D2_4 := D2_w6.out.c (i := 4) rfl
  go_wp2_with fail
  go_ret
  exact ⟨rfl, B_w6⟩
set_option maxHeartbeats 8000000 in
theorem turns_no (r c b p a : Int) (at1 n : Int) (w : World) (hok : okC r c b p a = false) : Calls TryQ.prog 5 #[cv r c b p a, .int .i64 at1, .int .u8 n] w fun e w' => e = .returned (.bool true) ∧ Below w.heap.size w w' := by
  have cP := Lib.hid (fun W => b_print_no _ _ _ _ _ W hok)
  clear hok
  go_enter TryQ.func5, Try.ntmps5
  go_wp2_with fail
  obtain ⟨w1, hw1⟩ : ∃ W, W = w.alloc (.cells #[.int .i64 r, .int .i64 c, .int .i64 b, .int .i64 p, .int .i64 a] 25) := ⟨_, rfl⟩
  have bw1 : Below w.heap.size w w1 := by rw [hw1]; exact (Below.refl _ _).alloc (Nat.le_refl _) _
  have Xw1 : Bx w1 w.heap.size 25 #[.int .i64 r, .int .i64 c, .int .i64 b, .int .i64 p, .int .i64 a] := by rw [hw1]; exact Bx.new _ _ _ rfl
  rw [← hw1]
  clear hw1
  have X_w1 := Lib.hid (Xw1)
  have z0_w1 : w.heap.size < w1.heap.size := Xw1.lt
  clear Xw1
  go_at_call 6
  (with_reducible refine (cP.out _).mono ?_)
  rintro e w2 ⟨rfl, hb2⟩
  have X_w2 := Lib.hid (X_w1.out.below hb2)
  have z0_w2 : w.heap.size < w2.heap.size := Nat.lt_of_lt_of_le z0_w1 hb2.size
  have B_w2 := bt bw1 hb2
  clear X_w1 z0_w1 bw1 hb2
  go_wp2_with fail
  go_at_call 14
  (with_reducible refine (alive_any _).mono ?_)
  rintro e w3 ⟨rfl, hb3⟩
  have X_w3 := Lib.hid (X_w2.out.below hb3)
  have z0_w3 : w.heap.size < w3.heap.size := Nat.lt_of_lt_of_le z0_w2 hb3.size
  have B_w3 := bt B_w2 hb3
  clear X_w2 z0_w2 B_w2 hb3
  go_wp2_with fail
  go_ret
  exact ⟨rfl, B_w3⟩
theorem turns_go (v : Value) (at1 n : Int) (h : InCfg v) (h1 : (Lit.int .i64 at1).wf = true) (hn : (Lit.int .u8 n).wf = true) (w : World) : Calls TryQ.prog 5 #[v, .int .i64 at1, .int .u8 n] w fun e w' => e = .returned (.bool true) ∧ Below w.heap.size w w' := by
  obtain ⟨r, c, b, p, a, rfl⟩ := h
  have hn2 : 0 ≤ n ∧ n < 256 := by
    have : IntKind.u8.min ≤ n ∧ n ≤ IntKind.u8.max := by simpa [Lit.wf] using hn
    have e1 : IntKind.u8.min = 0 := rfl
    have e2 : IntKind.u8.max = 255 := rfl
    omega
  cases ok : okC r c b p a
  · exact turns_no r c b p a at1 n w ok
  · have hm1 : -12 < at1.tmod 12 := by have := Int.lt_tmod_of_pos at1 (b := 12) (by omega); omega
    have hm2 : at1.tmod 12 < 12 := Int.tmod_lt_of_pos at1 (by omega)
    obtain ⟨m, hm⟩ : ∃ m, at1.tmod 12 = m := ⟨_, rfl⟩
    rw [hm] at hm1 hm2
    obtain ⟨k, hk⟩ : ∃ k : Nat, (m + 12).tmod 12 = (k : Int) := ⟨((m + 12).tmod 12).toNat, (Int.toNat_of_nonneg (Int.tmod_nonneg 12 (by omega))).symm⟩
    have hk1 : k < 12 := by have := Int.tmod_lt_of_pos (m + 12) (b := 12) (by omega); omega
    have hz := cBytes_size r c b p a
    have hE := cBytes_ok r c b p a ok
    have hB := parse_own r c b p a ok
    obtain ⟨S, hS⟩ : ∃ S, cBytes r c b p a = S := ⟨_, rfl⟩
    rw [hS] at hz hE hB
    have hk' : k < S.size := by omega
    by_cases e : turnL S k n = S
    · exact turns_same r c b p a at1 n w k m ok hm hm1 hm2 hk hk1 S _ _ (turnL S k n) hS (by omega) _ _ rfl (turn_lo S k hk') rfl (turn_hi S k hz hk1) rfl (by rw [List.length_take, nums_len]; omega) (by rw [List.length_drop, nums_len]; omega) (Lib.hid (by rw [e]; exact hB)) (by rw [e]; exact beq_self_eq_true S.toList)
    · refine turns_other r c b p a at1 n w k m ok hm hm1 hm2 hk hk1 S _ _ (turnL S k n) hS (by omega) _ _ rfl (turn_lo S k hk') rfl (turn_hi S k hz hk1) rfl (by rw [List.length_take, nums_len]; omega) (by rw [List.length_drop, nums_len]; omega) (Lib.hid fun W => ?_) (ne_list _ _ e)
      have := b_parse_any (turnL S k n) W (by rw [turn_size S k n hk']; unfold maxLen; omega)
      rw [cTup_bad _ 9 (turn_bad S k n hz hE hk1 hn2.1 hn2.2 e) (by decide)] at this
      exact this
end Go.Proofs.Ytlgfogllkoabpaa.QMacP
