/-
  Contract of footwayref02.Parse.
-/
import Derived.Test.YtjmmdlnhallkpaaFrameF
import Derived.Test.YtjmmdlnhallkpaaRegLit
import Derived.Deep.Cut
import Derived.Test.YtjmmdlnhallkpaaRegLit
import Derived.Deep.Cut
import Derived.Test.YtjmmdlnhallkpaaRegLit
import Derived.Deep.Cut
import Derived.Test.YtjmmdlnhallkpaaRegLit
import Derived.Deep.Cut
namespace Go.Proofs.Ytjmmdlnhallkpaa.MacP
open Go.RowKit
set_option linter.unusedVariables false

theorem ref_of0 (s : ByteArray) (h : 6 ≤ s.size) (w : World) :
    Calls Try.prog 22 #[.string (s.extract 0 6)] w fun e w' => e = .returned (.int .i64 (adr s 0)) ∧ w = w' :=
  ref_of (s.extract 0 6) w (by rw [ext_size _ _ _ h])
theorem ref_of6 (s : ByteArray) (h : 12 ≤ s.size) (w : World) :
    Calls Try.prog 22 #[.string (s.extract 6 12)] w fun e w' => e = .returned (.int .i64 (adr s 6)) ∧ w = w' :=
  ref_of (s.extract 6 12) w (by rw [ext_size _ _ _ h])
theorem ref_fright_is (d s t : Int) (x : ByteArray) (b : Bool) (h : okB d s t x = b) (w : World) (hx : x.size ≤ maxLen) :
    Calls Try.prog 30 #[fv d s t x] w fun e w' => e = .returned (.bool b) ∧ Below w.heap.size w w' := by
  subst h; exact ref_fright_any d s t x w hx

theorem dat_size (s : ByteArray) : (dat s).size = s.size - 14 := by unfold dat; rw [ByteArray.size_extract]; omega
theorem okB_parsed (s : ByteArray) (h0 : 14 ≤ s.size) (h1 : s.size ≤ 114) : okB (adr s 0) (adr s 6) (typ s) (dat s) = srcB (adr s 6) := by
  have ht := typ_bd s
  have hd := dat_size s
  unfold okB
  rw [adr_right]
  have h3 : (dat s).size ≤ 100 := by omega
  simp [ht.1, ht.2, h3]

set_option maxHeartbeats 400000 in
theorem ref_fparse_len (s : ByteArray) (n : Int) (hn : n ≠ 0) (h : (if s.size < 14 then (7 : Int) else if 114 < s.size then 8 else 0) = n) (w : World) (hs : s.size ≤ maxLen) :
    Calls Try.prog 28 #[.string s] w fun e w' => e = .returned (.tuple #[fv 0 0 0 ⟨#[]⟩, .int .i64 n]) ∧ Below w.heap.size w w' := by
  unfold maxLen at hs
  by_cases h1 : s.size < 14
  · rw [if_pos h1] at h
    subst h
    go_enter Try.func28, Try.ntmps28
    go_wp2_with fail
    refine bodyPost_ret (v := .tuple #[fv 0 0 0 ⟨#[]⟩, .int .i64 7]) (by simp [results, Try.results28, go_sem]) rfl ⟨rfl, ?_⟩
    repeat (first | exact Below.refl _ _ | refine Below.setCell ?_ (by simp) _ | refine Below.alloc ?_ (by simp) _)
  · rw [if_neg h1] at h
    by_cases h2 : 114 < s.size
    · rw [if_pos h2] at h
      subst h
      go_enter Try.func28, Try.ntmps28
      go_wp2_with fail
      refine bodyPost_ret (v := .tuple #[fv 0 0 0 ⟨#[]⟩, .int .i64 8]) (by simp [results, Try.results28, go_sem]) rfl ⟨rfl, ?_⟩
      repeat (first | exact Below.refl _ _ | refine Below.setCell ?_ (by simp) _ | refine Below.alloc ?_ (by simp) _)
    · rw [if_neg h2] at h
      exact absurd h.symm hn

/-- What the operations of Parse's literal yield. -/
def rpVal (s : ByteArray) : Nat → Value
  | 0 => .string s
  | 1 => .string (s.extract 0 6)
  | 2 => .int .i64 (adr s 0)
  | 3 => .string s
  | 4 => .string (s.extract 6 12)
  | 5 => .int .i64 (adr s 6)
  | 6 => .string s
  | 7 => .int .u8 (gb s 12)
  | 8 => .int .i64 (gb s 12)
  | 9 => .int .i64 (256 * gb s 12)
  | 10 => .string s
  | 11 => .int .u8 (gb s 13)
  | 12 => .int .i64 (gb s 13)
  | 13 => .int .i64 (typ s)
  | 14 => .string s
  | 15 => .string (dat s)
  | 16 => fv (adr s 0) (adr s 6) (typ s) (dat s)
  | _ => undef
def rpSlot (i : Nat) : Nat := if i = 17 then 4 else i + 13
def rpSp (s : ByteArray) (i : Nat) (v : Value) (w : World) : Prop := v = rpVal s i

set_option maxRecDepth 100000 in
set_option maxHeartbeats 1000000 in
theorem ref_fparse_mid (s : ByteArray) (w : World) (h0 : 14 ≤ s.size) (h1 : s.size ≤ 114) :
    Calls Try.prog 28 #[.string s] w fun e w' => e = .returned (pTup s) ∧ Below w.heap.size w w' := by
  have g0 := gb_bd s 12
  have g1 := gb_bd s 13
  have n0 : (14 : Int) ≤ (s.size : Int) := by omega
  have n1 : (12 : Int) ≤ (s.size : Int) := by omega
  have n2 : (6 : Int) ≤ (s.size : Int) := by omega
  have n3 : (12 : Int) < (s.size : Int) := by omega
  have n4 : (13 : Int) < (s.size : Int) := by omega
  have b12 : 12 < s.size := by omega
  have b13 : 13 < s.size := by omega
  have a0 : 6 ≤ s.size := by omega
  have a1 : 12 ≤ s.size := by omega
  have z12 := get_gb s 12 b12
  have z13 := get_gb s 13 b13
  have v1 : IntKind.i64.wrap (gb s 12) = gb s 12 := IntWalk.i64_in _ (by omega)
  have v2 : IntKind.i64.wrap (gb s 13) = gb s 13 := IntWalk.i64_in _ (by omega)
  have v3 : IntKind.i64.wrap (256 * gb s 12) = 256 * gb s 12 := IntWalk.i64_in _ (by omega)
  have v4 : IntKind.i64.wrap (256 * gb s 12 + gb s 13) = typ s := IntWalk.i64_in _ (by omega)
  have tb := typ_bd s
  have v6 : IntKind.i64.wrap (typ s) = typ s := IntWalk.i64_in _ (by omega)
  have v5 : 256 * gb s 12 + gb s 13 = typ s := rfl
  have fd : s.extract 14 s.size = dat s := rfl
  have hm : Hid ((dat s).size ≤ maxLen) := Lib.hid (by unfold dat maxLen; rw [ByteArray.size_extract]; omega)
  go_enter Try.func28, Try.ntmps28
  go_upto_region 5 with fail
  have hz : (w.alloc (.cells #[.int .i64 0, .int .i64 0, .int .i64 0, .string ⟨#[]⟩] 38)).heap.size = w.heap.size + 1 := by simp
  have k0 : ∀ j v, #[Value.int .i64 0, .int .i64 0, .int .i64 0, .string ⟨#[]⟩][j]? = some v → (w.alloc (.cells #[.int .i64 0, .int .i64 0, .int .i64 0, .string ⟨#[]⟩] 38)).cell? ⟨w.heap.size, j, none⟩ = some v := fun j v hj => by rw [World.cell?_alloc_new, hj]
  have kf : ∀ j, (w.alloc (.cells #[.int .i64 0, .int .i64 0, .int .i64 0, .string ⟨#[]⟩] 38)).frozen? ⟨w.heap.size, j, none⟩ = false := fun j => by go_simp
  have hW : Below w.heap.size w (w.alloc (.cells #[.int .i64 0, .int .i64 0, .int .i64 0, .string ⟨#[]⟩] 38)) := (Below.refl _ _).alloc (Nat.le_refl _) _
  generalize w.alloc (.cells #[.int .i64 0, .int .i64 0, .int .i64 0, .string ⟨#[]⟩] 38) = W at *
  refine wp_region_lit (by kernel_rfl) rpSlot 17 18 38 #[.int .i64 0, .int .i64 0, .int .i64 0, .string ⟨#[]⟩] #[.int .i64 (adr s 0), .int .i64 (adr s 6), .int .i64 (typ s), .string (dat s)] (by decide) (by decide) (by decide) (by kernel_rfl) (by kernel_rfl) (by kernel_rfl) rfl
    (rpSp s) (fun _ _ _ _ h _ => h) (fun _ _ _ _ _ h _ _ => h) ?_ ?_
  · refine ⟨?_, ?_, ?_, ?_, ?_, ?_, ?_, ?_, ?_, ?_, ?_, ?_, ?_, ?_, ?_, ?_, ?_, ?_, ?_, trivial⟩
    · intro a w1 K hb hdep hk hK
      have h0 : a.tmps.getD 0 undef = .string s := hk 0 (by kernel_rfl)
      replace hK : ∀ v w', v = .string s → Below w1.heap.size w1 w' → K (a.put (some 13) v) w' := hK
      clear hdep hk
      go_simp
      exact hK _ _ rfl (Below.refl _ _)
    · intro a w1 K hb hdep hk hK
      have h0 : a.tmps.getD 13 undef = .string s := hdep ⟨0, .data⟩ (by simp) rfl (by decide) (by decide)
      replace hK : ∀ v w', v = .string (s.extract 0 6) → Below w1.heap.size w1 w' → K (a.put (some 14) v) w' := hK
      clear hdep hk
      go_simp
      exact hK _ _ rfl (Below.refl _ _)
    · intro a w1 K hb hdep hk hK
      have h1 : a.tmps.getD 14 undef = .string (s.extract 0 6) := hdep ⟨1, .data⟩ (by simp) rfl (by decide) (by decide)
      replace hK : ∀ v w', v = .int .i64 (adr s 0) → Below w1.heap.size w1 w' → K (a.put (some 15) v) w' := hK
      clear hdep hk
      go_simp
      refine (ref_of0 s a0 _).mono ?_
      rintro e w' ⟨rfl, rfl⟩
      exact hK _ _ rfl (Below.refl _ _)
    · intro a w1 K hb hdep hk hK
      have h0 : a.tmps.getD 0 undef = .string s := hk 0 (by kernel_rfl)
      replace hK : ∀ v w', v = .string s → Below w1.heap.size w1 w' → K (a.put (some 16) v) w' := hK
      clear hdep hk
      go_simp
      exact hK _ _ rfl (Below.refl _ _)
    · intro a w1 K hb hdep hk hK
      have h3 : a.tmps.getD 16 undef = .string s := hdep ⟨3, .data⟩ (by simp) rfl (by decide) (by decide)
      replace hK : ∀ v w', v = .string (s.extract 6 12) → Below w1.heap.size w1 w' → K (a.put (some 17) v) w' := hK
      clear hdep hk
      go_simp
      exact hK _ _ rfl (Below.refl _ _)
    · intro a w1 K hb hdep hk hK
      have h4 : a.tmps.getD 17 undef = .string (s.extract 6 12) := hdep ⟨4, .data⟩ (by simp) rfl (by decide) (by decide)
      replace hK : ∀ v w', v = .int .i64 (adr s 6) → Below w1.heap.size w1 w' → K (a.put (some 18) v) w' := hK
      clear hdep hk
      go_simp
      refine (ref_of6 s a1 _).mono ?_
      rintro e w' ⟨rfl, rfl⟩
      exact hK _ _ rfl (Below.refl _ _)
    · intro a w1 K hb hdep hk hK
      have h0 : a.tmps.getD 0 undef = .string s := hk 0 (by kernel_rfl)
      replace hK : ∀ v w', v = .string s → Below w1.heap.size w1 w' → K (a.put (some 19) v) w' := hK
      clear hdep hk
      go_simp
      exact hK _ _ rfl (Below.refl _ _)
    · intro a w1 K hb hdep hk hK
      have h6 : a.tmps.getD 19 undef = .string s := hdep ⟨6, .data⟩ (by simp) rfl (by decide) (by decide)
      replace hK : ∀ v w', v = .int .u8 (gb s 12) → Below w1.heap.size w1 w' → K (a.put (some 20) v) w' := hK
      clear hdep hk
      go_simp
      exact hK _ _ rfl (Below.refl _ _)
    · intro a w1 K hb hdep hk hK
      have h7 : a.tmps.getD 20 undef = .int .u8 (gb s 12) := hdep ⟨7, .data⟩ (by simp) rfl (by decide) (by decide)
      replace hK : ∀ v w', v = .int .i64 (gb s 12) → Below w1.heap.size w1 w' → K (a.put (some 21) v) w' := hK
      clear hdep hk
      go_simp
      exact hK _ _ rfl (Below.refl _ _)
    · intro a w1 K hb hdep hk hK
      have h8 : a.tmps.getD 21 undef = .int .i64 (gb s 12) := hdep ⟨8, .data⟩ (by simp) rfl (by decide) (by decide)
      replace hK : ∀ v w', v = .int .i64 (256 * gb s 12) → Below w1.heap.size w1 w' → K (a.put (some 22) v) w' := hK
      clear hdep hk
      go_simp
      exact hK _ _ rfl (Below.refl _ _)
    · intro a w1 K hb hdep hk hK
      have h0 : a.tmps.getD 0 undef = .string s := hk 0 (by kernel_rfl)
      replace hK : ∀ v w', v = .string s → Below w1.heap.size w1 w' → K (a.put (some 23) v) w' := hK
      clear hdep hk
      go_simp
      exact hK _ _ rfl (Below.refl _ _)
    · intro a w1 K hb hdep hk hK
      have h10 : a.tmps.getD 23 undef = .string s := hdep ⟨10, .data⟩ (by simp) rfl (by decide) (by decide)
      replace hK : ∀ v w', v = .int .u8 (gb s 13) → Below w1.heap.size w1 w' → K (a.put (some 24) v) w' := hK
      clear hdep hk
      go_simp
      exact hK _ _ rfl (Below.refl _ _)
    · intro a w1 K hb hdep hk hK
      have h11 : a.tmps.getD 24 undef = .int .u8 (gb s 13) := hdep ⟨11, .data⟩ (by simp) rfl (by decide) (by decide)
      replace hK : ∀ v w', v = .int .i64 (gb s 13) → Below w1.heap.size w1 w' → K (a.put (some 25) v) w' := hK
      clear hdep hk
      go_simp
      exact hK _ _ rfl (Below.refl _ _)
    · intro a w1 K hb hdep hk hK
      have h9 : a.tmps.getD 22 undef = .int .i64 (256 * gb s 12) := hdep ⟨9, .data⟩ (by simp) rfl (by decide) (by decide)
      have h12 : a.tmps.getD 25 undef = .int .i64 (gb s 13) := hdep ⟨12, .data⟩ (by simp) rfl (by decide) (by decide)
      replace hK : ∀ v w', v = .int .i64 (typ s) → Below w1.heap.size w1 w' → K (a.put (some 26) v) w' := hK
      clear hdep hk
      go_simp
      exact hK _ _ rfl (Below.refl _ _)
    · intro a w1 K hb hdep hk hK
      have h0 : a.tmps.getD 0 undef = .string s := hk 0 (by kernel_rfl)
      replace hK : ∀ v w', v = .string s → Below w1.heap.size w1 w' → K (a.put (some 27) v) w' := hK
      clear hdep hk
      go_simp
      exact hK _ _ rfl (Below.refl _ _)
    · intro a w1 K hb hdep hk hK
      have h14 : a.tmps.getD 27 undef = .string s := hdep ⟨14, .data⟩ (by simp) rfl (by decide) (by decide)
      replace hK : ∀ v w', v = .string (dat s) → Below w1.heap.size w1 w' → K (a.put (some 28) v) w' := hK
      clear hdep hk
      go_simp
      exact hK _ _ rfl (Below.refl _ _)
    · intro a w1 K hb hdep hk hK
      have h2 : a.tmps.getD 15 undef = .int .i64 (adr s 0) := hdep ⟨2, .data⟩ (by simp) rfl (by decide) (by decide)
      have h5 : a.tmps.getD 18 undef = .int .i64 (adr s 6) := hdep ⟨5, .data⟩ (by simp) rfl (by decide) (by decide)
      have h13 : a.tmps.getD 26 undef = .int .i64 (typ s) := hdep ⟨13, .data⟩ (by simp) rfl (by decide) (by decide)
      have h15 : a.tmps.getD 28 undef = .string (dat s) := hdep ⟨15, .data⟩ (by simp) rfl (by decide) (by decide)
      replace hK : ∀ v w', v = fv (adr s 0) (adr s 6) (typ s) (dat s) → Below w1.heap.size w1 w' → K (a.put (some 29) v) w' := hK
      have g2 : a.tmps[15]?.getD undef = .int .i64 (adr s 0) := by simpa [Array.getD_eq_getD_getElem?] using h2
      have g5 : a.tmps[18]?.getD undef = .int .i64 (adr s 6) := by simpa [Array.getD_eq_getD_getElem?] using h5
      have g13 : a.tmps[26]?.getD undef = .int .i64 (typ s) := by simpa [Array.getD_eq_getD_getElem?] using h13
      have g15 : a.tmps[28]?.getD undef = .string (dat s) := by simpa [Array.getD_eq_getD_getElem?] using h15
      clear hdep hk h2 h5 h13 h15
      go_simp
      exact hK _ _ rfl (Below.refl _ _)
    · intro a w1 K hb hdep hk hK
      replace hK : K (a.put (some 4) (.pointer (some ⟨w1.heap.size, 0, none⟩))) (w1.alloc (.cells #[.int .i64 0, .int .i64 0, .int .i64 0, .string ⟨#[]⟩] 38)) := hK
      clear hdep hk
      go_simp
      exact hK
    · intro a w1 K hb hdep hk hK
      have h16 : a.tmps.getD 29 undef = fv (adr s 0) (adr s 6) (typ s) (dat s) := hdep ⟨16, .data⟩ (by simp) rfl (by decide) (by decide)
      obtain ⟨b, cs, h4, hblk, hcs, hK⟩ : ∃ b cs, a.tmps.getD 4 undef = .pointer (some ⟨b, 0, none⟩) ∧ w1.heap[b]? = some (.cells cs 38 (0, 0)) ∧ cs.size = 4 ∧ ∀ w', Wrote b #[.int .i64 (adr s 0), .int .i64 (adr s 6), .int .i64 (typ s), .string (dat s)] 38 w1 w' → K a w' := hK
      obtain ⟨c0, c1, c2, c3, rfl⟩ := Joins.array4 hcs
      have e0 : w1.cell? ⟨b, 0, none⟩ = some c0 := Joins.cell_of_block hblk 0
      have e1 : w1.cell? ⟨b, 1, none⟩ = some c1 := Joins.cell_of_block hblk 1
      have e2 : w1.cell? ⟨b, 2, none⟩ = some c2 := Joins.cell_of_block hblk 2
      have e3 : w1.cell? ⟨b, 3, none⟩ = some c3 := Joins.cell_of_block hblk 3
      have f0 : w1.frozen? ⟨b, 0, none⟩ = false := Joins.unfrozen_of_block hblk 0
      have f1 : w1.frozen? ⟨b, 1, none⟩ = false := Joins.unfrozen_of_block hblk 1
      have f2 : w1.frozen? ⟨b, 2, none⟩ = false := Joins.unfrozen_of_block hblk 2
      have f3 : w1.frozen? ⟨b, 3, none⟩ = false := Joins.unfrozen_of_block hblk 3
      clear hdep hk
      go_simp
      exact hK _ (((((Wrote.start hblk).set (i := 0) _).set (i := 1) _).set (i := 2) _).set (i := 3) _)
  · intro a w1 b hb hsp hk h4 hbB hblk hn hdf
    have s0 : a.tmps.getD 0 undef = .string s := hk 0 (by kernel_rfl)
    have s2 : a.tmps.getD 2 undef = .pointer (some ⟨w.heap.size, 0, none⟩) := hk 2 (by kernel_rfl)
    have s3 : a.tmps.getD 3 undef = .int .i64 0 := hk 3 (by kernel_rfl)
    have s4 : a.tmps.getD 4 undef = .pointer (some ⟨b, 0, none⟩) := h4
    clear hsp hk h4
    obtain ⟨tm, df⟩ := a
    have e := arr_out tm 35 hn
    replace e : tm = #[tm.getD 0 undef, tm.getD 1 undef, tm.getD 2 undef, tm.getD 3 undef, tm.getD 4 undef, tm.getD 5 undef, tm.getD 6 undef, tm.getD 7 undef, tm.getD 8 undef, tm.getD 9 undef, tm.getD 10 undef, tm.getD 11 undef, tm.getD 12 undef, tm.getD 13 undef, tm.getD 14 undef, tm.getD 15 undef, tm.getD 16 undef, tm.getD 17 undef, tm.getD 18 undef, tm.getD 19 undef, tm.getD 20 undef, tm.getD 21 undef, tm.getD 22 undef, tm.getD 23 undef, tm.getD 24 undef, tm.getD 25 undef, tm.getD 26 undef, tm.getD 27 undef, tm.getD 28 undef, tm.getD 29 undef, tm.getD 30 undef, tm.getD 31 undef, tm.getD 32 undef, tm.getD 33 undef, tm.getD 34 undef] := e
    simp only at s0 s2 s3 s4 hdf
    rw [s0, s2, s3, s4] at e
    subst hdf
    clear s0 s2 s3 s4 hn
    generalize tm.getD 1 undef = u1 at e
    generalize tm.getD 5 undef = u5 at e
    generalize tm.getD 6 undef = u6 at e
    generalize tm.getD 7 undef = u7 at e
    generalize tm.getD 8 undef = u8 at e
    generalize tm.getD 9 undef = u9 at e
    generalize tm.getD 10 undef = u10 at e
    generalize tm.getD 11 undef = u11 at e
    generalize tm.getD 12 undef = u12 at e
    generalize tm.getD 13 undef = u13 at e
    generalize tm.getD 14 undef = u14 at e
    generalize tm.getD 15 undef = u15 at e
    generalize tm.getD 16 undef = u16 at e
    generalize tm.getD 17 undef = u17 at e
    generalize tm.getD 18 undef = u18 at e
    generalize tm.getD 19 undef = u19 at e
    generalize tm.getD 20 undef = u20 at e
    generalize tm.getD 21 undef = u21 at e
    generalize tm.getD 22 undef = u22 at e
    generalize tm.getD 23 undef = u23 at e
    generalize tm.getD 24 undef = u24 at e
    generalize tm.getD 25 undef = u25 at e
    generalize tm.getD 26 undef = u26 at e
    generalize tm.getD 27 undef = u27 at e
    generalize tm.getD 28 undef = u28 at e
    generalize tm.getD 29 undef = u29 at e
    generalize tm.getD 30 undef = u30 at e
    generalize tm.getD 31 undef = u31 at e
    generalize tm.getD 32 undef = u32 at e
    generalize tm.getD 33 undef = u33 at e
    generalize tm.getD 34 undef = u34 at e
    subst e
    have lt : w.heap.size < W.heap.size := by omega
    have r0 : ∀ j v, #[Value.int .i64 0, .int .i64 0, .int .i64 0, .string ⟨#[]⟩][j]? = some v → w1.cell? ⟨w.heap.size, j, none⟩ = some v := fun j v hj => (hb.cell (p := ⟨w.heap.size, j, none⟩) lt).trans (k0 j v hj)
    have rf : ∀ j, w1.frozen? ⟨w.heap.size, j, none⟩ = false := fun j => (hb.frozen (p := ⟨w.heap.size, j, none⟩) lt).trans (kf j)
    have q0 := r0 0 _ rfl
    have q1 := r0 1 _ rfl
    have q2 := r0 2 _ rfl
    have q3 := r0 3 _ rfl
    have p0 := rf 0
    have p1 := rf 1
    have p2 := rf 2
    have p3 := rf 3
    have e0 : w1.cell? ⟨b, 0, none⟩ = some (.int .i64 (adr s 0)) := Joins.cell_of_block hblk 0
    have e1 : w1.cell? ⟨b, 1, none⟩ = some (.int .i64 (adr s 6)) := Joins.cell_of_block hblk 1
    have e2 : w1.cell? ⟨b, 2, none⟩ = some (.int .i64 (typ s)) := Joins.cell_of_block hblk 2
    have e3 : w1.cell? ⟨b, 3, none⟩ = some (.string (dat s)) := Joins.cell_of_block hblk 3
    have bb : b < w1.heap.size := by
      rcases Nat.lt_or_ge b w1.heap.size with q | q
      · exact q
      · rw [Array.getElem?_eq_none q] at hblk; cases hblk
    have hB : Below w.heap.size w w1 := hW.trans (hb.mono (Nat.le_of_lt lt))
    clear tb v6 r0 rf k0 kf hblk z12 z13 v1 v2 v3 v4 v5 fd n0 n1 n2 n3 n4
    show Exit.then _ _ _ _ _
    simp only [Exit.then]
    cases hsr : okB (adr s 0) (adr s 6) (typ s) (dat s)
    · have HR := Lib.hid hsr
      have hp : Hid (pTup s = .tuple #[fv 0 0 0 ⟨#[]⟩, .int .i64 10]) := Lib.hid (pTup_bad s 10 (by
        have hd := (dat_size s)
        rw [okB_parsed s h0 h1] at hsr
        rw [pE, if_neg (by omega), if_neg (by omega), hsr]; rfl) (by decide))
      clear hsr
      go_wp2_with fail
      go_at_call 30
      refine (ref_fright_is _ _ _ _ _ HR.out _ hm.out).mono ?_
      rintro e w2 ⟨rfl, hb2⟩
      obtain ⟨hc2, hf2⟩ := bcell hb2
      have zz : w.heap.size < w1.heap.size := by omega
      have y0 := (hc2 w.heap.size 0 zz).trans q0
      have y1 := (hc2 w.heap.size 1 zz).trans q1
      have y2 := (hc2 w.heap.size 2 zz).trans q2
      have y3 := (hc2 w.heap.size 3 zz).trans q3
      have x0 := (hf2 w.heap.size 0 zz).trans p0
      have x1 := (hf2 w.heap.size 1 zz).trans p1
      have x2 := (hf2 w.heap.size 2 zz).trans p2
      have x3 := (hf2 w.heap.size 3 zz).trans p3
      clear hc2 hf2
      go_wp2_with fail
      refine bodyPost_ret (v := .tuple #[fv 0 0 0 ⟨#[]⟩, .int .i64 10]) (by simp [results, Try.results28, go_sem, y0, y1, y2, y3]) rfl ⟨by rw [hp.out], ?_⟩
      repeat (first | exact hB.trans (hb2.mono (by omega)) | refine Below.setCell ?_ (by simp) _)
    · have HR := Lib.hid hsr
      have hp : Hid (pTup s = .tuple #[fv (adr s 0) (adr s 6) (typ s) (dat s), .int .i64 0]) := Lib.hid (pTup_good s (by
        rw [okB_parsed s h0 h1] at hsr
        rw [pE, if_neg (by omega), if_neg (by omega), hsr]; rfl))
      clear hsr
      go_wp2_with fail
      go_at_call 30
      refine (ref_fright_is _ _ _ _ _ HR.out _ hm.out).mono ?_
      rintro e w2 ⟨rfl, hb2⟩
      obtain ⟨hc2, hf2⟩ := bcell hb2
      have zz : w.heap.size < w1.heap.size := by omega
      have y0 := (hc2 w.heap.size 0 zz).trans q0
      have y1 := (hc2 w.heap.size 1 zz).trans q1
      have y2 := (hc2 w.heap.size 2 zz).trans q2
      have y3 := (hc2 w.heap.size 3 zz).trans q3
      have x0 := (hf2 w.heap.size 0 zz).trans p0
      have x1 := (hf2 w.heap.size 1 zz).trans p1
      have x2 := (hf2 w.heap.size 2 zz).trans p2
      have x3 := (hf2 w.heap.size 3 zz).trans p3
      have m0 := (hc2 b 0 bb).trans e0
      have m1 := (hc2 b 1 bb).trans e1
      have m2 := (hc2 b 2 bb).trans e2
      have m3 := (hc2 b 3 bb).trans e3
      clear hc2 hf2
      go_wp2_with fail
      refine bodyPost_ret (v := .tuple #[fv (adr s 0) (adr s 6) (typ s) (dat s), .int .i64 0]) (by simp [results, Try.results28, go_sem, y0, y1, y2, y3]) rfl ⟨by rw [hp.out], ?_⟩
      repeat (first | exact hB.trans (hb2.mono (by omega)) | refine Below.setCell ?_ (by simp) _)

theorem ref_fparse_any (s : ByteArray) (w : World) (hs : s.size ≤ maxLen) :
    Calls Try.prog 28 #[.string s] w fun e w' => e = .returned (pTup s) ∧ Below w.heap.size w w' := by
  by_cases h0 : s.size < 14
  · exact (ref_fparse_len s 7 (by decide) (by rw [if_pos h0]) w hs).mono fun e w' ⟨h1, h2⟩ => ⟨by rw [h1, pTup_bad s 7 (by rw [pE, if_pos h0]) (by decide)], h2⟩
  · by_cases h1 : 114 < s.size
    · exact (ref_fparse_len s 8 (by decide) (by rw [if_neg h0, if_pos h1]) w hs).mono fun e w' ⟨h2, h3⟩ => ⟨by rw [h2, pTup_bad s 8 (by rw [pE, if_neg h0, if_pos h1]) (by decide)], h3⟩
    · exact ref_fparse_mid s w (by omega) (by omega)
theorem ref_fparse_good (r : ByteArray) (w : World) (hr : r.size ≤ maxLen) (h : pE r = 0) :
    Calls Try.prog 28 #[.string r] w fun e w' => e = .returned (.tuple #[fv (adr r 0) (adr r 6) (typ r) (dat r), .int .i64 0]) ∧ Below w.heap.size w w' :=
  (ref_fparse_any r w hr).mono fun e w' ⟨h1, h2⟩ => ⟨by rw [h1, pTup_good r h], h2⟩
theorem ref_fparse_bad (r : ByteArray) (n : Int) (w : World) (hr : r.size ≤ maxLen) (h : pE r = n) (hn : n ≠ 0) :
    Calls Try.prog 28 #[.string r] w fun e w' => e = .returned (.tuple #[fv 0 0 0 ⟨#[]⟩, .int .i64 n]) ∧ Below w.heap.size w w' :=
  (ref_fparse_any r w hr).mono fun e w' ⟨h1, h2⟩ => ⟨by rw [h1, pTup_bad r n h hn], h2⟩
theorem ref_class_adr (s : ByteArray) (j : Nat) (w : World) :
    Calls Try.prog 16 #[.int .i64 (adr s j)] w fun e w' => e = .returned (.int .i64 (classI (adr s j))) ∧ w = w' := ref_class_is _ (adr_right s j) w
end Go.Proofs.Ytjmmdlnhallkpaa.MacP
