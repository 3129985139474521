/-
  Contract of bpdu.configOf over TryQ.
-/
import Derived.Test.YtlgfogllkoabpaaQOwnB
import Derived.Test.YtlgfogllkoabpaaQRegMono
import Derived.Test.YtlgfogllkoabpaaQRegMono
namespace Go.Proofs.Ytlgfogllkoabpaa.QMacP
open Go.RowKit Go.Sort
set_option linter.unusedVariables false
set_option linter.unusedSimpArgs false
set_option maxRecDepth 100000

def vC (s : ByteArray) : Nat → Value
  | 0 => .string s
  | 1 => .string (s.extract 1 3)
  | 2 => .int .i64 (rd s 1 3)
  | 3 => .string s
  | 4 => .string (s.extract 3 7)
  | 5 => .int .i64 (rd s 3 7)
  | 6 => .string s
  | 7 => .string (s.extract 7 9)
  | 8 => .int .i64 (rd s 7 9)
  | 9 => .string s
  | 10 => .string (s.extract 9 10)
  | 11 => .int .i64 (rd s 9 10)
  | 12 => .agg #[.int .i64 (rd s 1 3), .int .i64 (rd s 3 7), .int .i64 (rd s 7 9), .int .i64 (rd s 9 10)]
  | 13 => .string s
  | 14 => .string (s.extract 10 11)
  | 15 => .int .i64 (rd s 10 11)
  | 16 => cv (rd s 1 3) (rd s 3 7) (rd s 7 9) (rd s 9 10) (rd s 10 11)
  | _ => undef
def spC (s : ByteArray) (i : Nat) (v : Value) (_ : World) : Prop := v = vC s i
theorem b_numw (s : ByteArray) (j k : Nat) (h1 : j ≤ k) (h2 : k ≤ s.size) (h : k - j ≤ 6) (w : World) : Calls TryQ.prog 41 #[.string (s.extract j k)] w fun e w' => e = .returned (.int .i64 (rd s j k)) ∧ w = w' := by
  have hz : (s.extract j k).size = k - j := by rw [ByteArray.size_extract]; omega
  have := b_number (s.extract j k) w (by omega)
  rw [hz] at this
  exact this
set_option maxHeartbeats 4000000 in
theorem b_config (s : ByteArray) (w : World) (hs : s.size = 12) :
    Calls TryQ.prog 21 #[.string s] w fun e w' => e = .returned (cv (rd s 1 3) (rd s 3 7) (rd s 7 9) (rd s 9 10) (rd s 10 11)) ∧ Below w.heap.size w w' := by
  have n1 := fun W => b_numw s 1 3 (by omega) (by omega) (by omega) W
  have n2 := fun W => b_numw s 3 7 (by omega) (by omega) (by omega) W
  have n3 := fun W => b_numw s 7 9 (by omega) (by omega) (by omega) W
  have n4 := fun W => b_numw s 9 10 (by omega) (by omega) (by omega) W
  have n5 := fun W => b_numw s 10 11 (by omega) (by omega) (by omega) W
  have HS := Lib.hid hs
  clear hs
  go_enter TryQ.func21, Try.ntmps21
  go_wp2_with fail
  obtain ⟨W, hW⟩ : ∃ W, W = w.alloc (.cells #[.int .i64 0, .int .i64 0, .int .i64 0, .int .i64 0, .int .i64 0] 25) := ⟨_, rfl⟩
  have B := Lib.hid (show Below w.heap.size w W by rw [hW]; exact (Below.refl _ _).alloc (Nat.le_refl _) _)
  have X := Lib.hid (show W.heap[w.heap.size]? = some (.cells #[.int .i64 0, .int .i64 0, .int .i64 0, .int .i64 0, .int .i64 0] 25 (0, 0)) by rw [hW]; exact heap_alloc_new w _)
  have hlt := Lib.hid (show w.heap.size < W.heap.size by rw [hW]; simp)
  rw [← hW]
  clear hW
  refine wp_region_tail (by kernel_rfl) (fun ix => ix + 3) 0 17 (by decide) rfl (by kernel_rfl) (by kernel_rfl) (by kernel_rfl) (fun W1 => Below W.heap.size W W1) (fun W1 W2 => Below W1.heap.size W1 W2) (fun W1 h => h) (fun W1 W2 h h' => bt h h') (fun W1 W2 h h' => bt h h')
    (spC s) (fun _ _ _ _ h _ => h) (fun _ _ _ _ _ h _ _ => h) ?_
  refine ⟨?_, ?_, ?_, ?_, ?_, ?_, ?_, ?_, ?_, ?_, ?_, ?_, ?_, ?_, ?_, ?_, ?_, ?_, trivial⟩
  · as_aux_lemma =>
      intro a W2 K hR hm hdep hk hK hall
      replace hK : ∀ v w', v = .string s → Below W2.heap.size W2 w' → K (a.put (some 3) v) w' := hK
      have d0' : a.tmps.getD 0 undef = .string s := hk 0 (by kernel_rfl)
      clear hdep hk hm hR hall
      go_simp
      exact hK _ _ rfl (Below.refl _ _)
  · as_aux_lemma =>
      intro a W2 K hR hm hdep hk hK hall
      replace hK : ∀ v w', v = .string (s.extract 1 3) → Below W2.heap.size W2 w' → K (a.put (some 4) v) w' := hK
      have d0 : a.tmps.getD 3 undef = .string s := hdep ⟨0, .data⟩ (by simp) rfl (by decide)
      have hz := HS.out
      clear hdep hk hm hR hall
      go_simp
      exact hK _ _ rfl (Below.refl _ _)
  · as_aux_lemma =>
      intro a W2 K hR hm hdep hk hK hall
      replace hK : ∀ v w', v = .int .i64 (rd s 1 3) → Below W2.heap.size W2 w' → K (a.put (some 5) v) w' := hK
      have d1 : a.tmps.getD 4 undef = .string (s.extract 1 3) := hdep ⟨1, .data⟩ (by simp) rfl (by decide)
      clear hdep hk hm hR hall
      go_simp
      refine (n1 _).mono ?_
      rintro e w' ⟨rfl, rfl⟩
      exact hK _ _ rfl (Below.refl _ _)
  · as_aux_lemma =>
      intro a W2 K hR hm hdep hk hK hall
      replace hK : ∀ v w', v = .string s → Below W2.heap.size W2 w' → K (a.put (some 6) v) w' := hK
      have d0' : a.tmps.getD 0 undef = .string s := hk 0 (by kernel_rfl)
      clear hdep hk hm hR hall
      go_simp
      exact hK _ _ rfl (Below.refl _ _)
  · as_aux_lemma =>
      intro a W2 K hR hm hdep hk hK hall
      replace hK : ∀ v w', v = .string (s.extract 3 7) → Below W2.heap.size W2 w' → K (a.put (some 7) v) w' := hK
      have d3 : a.tmps.getD 6 undef = .string s := hdep ⟨3, .data⟩ (by simp) rfl (by decide)
      have hz := HS.out
      clear hdep hk hm hR hall
      go_simp
      exact hK _ _ rfl (Below.refl _ _)
  · as_aux_lemma =>
      intro a W2 K hR hm hdep hk hK hall
      replace hK : ∀ v w', v = .int .i64 (rd s 3 7) → Below W2.heap.size W2 w' → K (a.put (some 8) v) w' := hK
      have d4 : a.tmps.getD 7 undef = .string (s.extract 3 7) := hdep ⟨4, .data⟩ (by simp) rfl (by decide)
      clear hdep hk hm hR hall
      go_simp
      refine (n2 _).mono ?_
      rintro e w' ⟨rfl, rfl⟩
      exact hK _ _ rfl (Below.refl _ _)
  · as_aux_lemma =>
      intro a W2 K hR hm hdep hk hK hall
      replace hK : ∀ v w', v = .string s → Below W2.heap.size W2 w' → K (a.put (some 9) v) w' := hK
      have d0' : a.tmps.getD 0 undef = .string s := hk 0 (by kernel_rfl)
      clear hdep hk hm hR hall
      go_simp
      exact hK _ _ rfl (Below.refl _ _)
  · as_aux_lemma =>
      intro a W2 K hR hm hdep hk hK hall
      replace hK : ∀ v w', v = .string (s.extract 7 9) → Below W2.heap.size W2 w' → K (a.put (some 10) v) w' := hK
      have d6 : a.tmps.getD 9 undef = .string s := hdep ⟨6, .data⟩ (by simp) rfl (by decide)
      have hz := HS.out
      clear hdep hk hm hR hall
      go_simp
      exact hK _ _ rfl (Below.refl _ _)
  · as_aux_lemma =>
      intro a W2 K hR hm hdep hk hK hall
      replace hK : ∀ v w', v = .int .i64 (rd s 7 9) → Below W2.heap.size W2 w' → K (a.put (some 11) v) w' := hK
      have d7 : a.tmps.getD 10 undef = .string (s.extract 7 9) := hdep ⟨7, .data⟩ (by simp) rfl (by decide)
      clear hdep hk hm hR hall
      go_simp
      refine (n3 _).mono ?_
      rintro e w' ⟨rfl, rfl⟩
      exact hK _ _ rfl (Below.refl _ _)
  · as_aux_lemma =>
      intro a W2 K hR hm hdep hk hK hall
      replace hK : ∀ v w', v = .string s → Below W2.heap.size W2 w' → K (a.put (some 12) v) w' := hK
      have d0' : a.tmps.getD 0 undef = .string s := hk 0 (by kernel_rfl)
      clear hdep hk hm hR hall
      go_simp
      exact hK _ _ rfl (Below.refl _ _)
  · as_aux_lemma =>
      intro a W2 K hR hm hdep hk hK hall
      replace hK : ∀ v w', v = .string (s.extract 9 10) → Below W2.heap.size W2 w' → K (a.put (some 13) v) w' := hK
      have d9 : a.tmps.getD 12 undef = .string s := hdep ⟨9, .data⟩ (by simp) rfl (by decide)
      have hz := HS.out
      clear hdep hk hm hR hall
      go_simp
      exact hK _ _ rfl (Below.refl _ _)
  · as_aux_lemma =>
      intro a W2 K hR hm hdep hk hK hall
      replace hK : ∀ v w', v = .int .i64 (rd s 9 10) → Below W2.heap.size W2 w' → K (a.put (some 14) v) w' := hK
      have d10 : a.tmps.getD 13 undef = .string (s.extract 9 10) := hdep ⟨10, .data⟩ (by simp) rfl (by decide)
      clear hdep hk hm hR hall
      go_simp
      refine (n4 _).mono ?_
      rintro e w' ⟨rfl, rfl⟩
      exact hK _ _ rfl (Below.refl _ _)
  · as_aux_lemma =>
      intro a W2 K hR hm hdep hk hK hall
      replace hK : ∀ v w', v = .agg #[.int .i64 (rd s 1 3), .int .i64 (rd s 3 7), .int .i64 (rd s 7 9), .int .i64 (rd s 9 10)] → Below W2.heap.size W2 w' → K (a.put (some 15) v) w' := hK
      have d2 : a.tmps.getD 5 undef = .int .i64 (rd s 1 3) := hdep ⟨2, .data⟩ (by simp) rfl (by decide)
      have d5 : a.tmps.getD 8 undef = .int .i64 (rd s 3 7) := hdep ⟨5, .data⟩ (by simp) rfl (by decide)
      have d8 : a.tmps.getD 11 undef = .int .i64 (rd s 7 9) := hdep ⟨8, .data⟩ (by simp) rfl (by decide)
      have d11 : a.tmps.getD 14 undef = .int .i64 (rd s 9 10) := hdep ⟨11, .data⟩ (by simp) rfl (by decide)
      have q2 : a.tmps[5]?.getD undef = .int .i64 (rd s 1 3) := by simpa [Array.getD_eq_getD_getElem?] using d2
      clear d2
      have q5 : a.tmps[8]?.getD undef = .int .i64 (rd s 3 7) := by simpa [Array.getD_eq_getD_getElem?] using d5
      clear d5
      have q8 : a.tmps[11]?.getD undef = .int .i64 (rd s 7 9) := by simpa [Array.getD_eq_getD_getElem?] using d8
      clear d8
      have q11 : a.tmps[14]?.getD undef = .int .i64 (rd s 9 10) := by simpa [Array.getD_eq_getD_getElem?] using d11
      clear d11
      clear hdep hk hm hR hall
      go_simp
      exact hK _ _ rfl (Below.refl _ _)
  · as_aux_lemma =>
      intro a W2 K hR hm hdep hk hK hall
      replace hK : ∀ v w', v = .string s → Below W2.heap.size W2 w' → K (a.put (some 16) v) w' := hK
      have d0' : a.tmps.getD 0 undef = .string s := hk 0 (by kernel_rfl)
      clear hdep hk hm hR hall
      go_simp
      exact hK _ _ rfl (Below.refl _ _)
  · as_aux_lemma =>
      intro a W2 K hR hm hdep hk hK hall
      replace hK : ∀ v w', v = .string (s.extract 10 11) → Below W2.heap.size W2 w' → K (a.put (some 17) v) w' := hK
      have d13 : a.tmps.getD 16 undef = .string s := hdep ⟨13, .data⟩ (by simp) rfl (by decide)
      have hz := HS.out
      clear hdep hk hm hR hall
      go_simp
      exact hK _ _ rfl (Below.refl _ _)
  · as_aux_lemma =>
      intro a W2 K hR hm hdep hk hK hall
      replace hK : ∀ v w', v = .int .i64 (rd s 10 11) → Below W2.heap.size W2 w' → K (a.put (some 18) v) w' := hK
      have d14 : a.tmps.getD 17 undef = .string (s.extract 10 11) := hdep ⟨14, .data⟩ (by simp) rfl (by decide)
      clear hdep hk hm hR hall
      go_simp
      refine (n5 _).mono ?_
      rintro e w' ⟨rfl, rfl⟩
      exact hK _ _ rfl (Below.refl _ _)
  · as_aux_lemma =>
      intro a W2 K hR hm hdep hk hK hall
      replace hK : ∀ v w', v = cv (rd s 1 3) (rd s 3 7) (rd s 7 9) (rd s 9 10) (rd s 10 11) → Below W2.heap.size W2 w' → K (a.put (some 19) v) w' := hK
      have d12 : a.tmps.getD 15 undef = .agg #[.int .i64 (rd s 1 3), .int .i64 (rd s 3 7), .int .i64 (rd s 7 9), .int .i64 (rd s 9 10)] := hdep ⟨12, .data⟩ (by simp) rfl (by decide)
      have d15 : a.tmps.getD 18 undef = .int .i64 (rd s 10 11) := hdep ⟨15, .data⟩ (by simp) rfl (by decide)
      have q12 : a.tmps[15]?.getD undef = .agg #[.int .i64 (rd s 1 3), .int .i64 (rd s 3 7), .int .i64 (rd s 7 9), .int .i64 (rd s 9 10)] := by simpa [Array.getD_eq_getD_getElem?] using d12
      clear d12
      have q15 : a.tmps[18]?.getD undef = .int .i64 (rd s 10 11) := by simpa [Array.getD_eq_getD_getElem?] using d15
      clear d15
      clear hdep hk hm hR hall
      go_simp
      exact hK _ _ rfl (Below.refl _ _)
  · intro a W2 K hR _ _ hk hK hall
    obtain ⟨hsp, hn, hdf⟩ := hall rfl
    have hK2 := fun w' => hK w' hsp hn hdf
    have s0 : a.tmps.getD 0 undef = .string s := hk 0 (by kernel_rfl)
    have s2 : a.tmps.getD 2 undef = .pointer (some ⟨w.heap.size, 0, none⟩) := hk 2 (by kernel_rfl)
    have s19 : a.tmps.getD 19 undef = cv (rd s 1 3) (rd s 3 7) (rd s 7 9) (rd s 9 10) (rd s 10 11) := hsp 16 (by decide)
    have hblk : W2.heap[w.heap.size]? = some (.cells #[.int .i64 0, .int .i64 0, .int .i64 0, .int .i64 0, .int .i64 0] 25 (0, 0)) := (hR.block w.heap.size hlt.out).trans X.out
    have hB : Below w.heap.size w W2 := B.out.trans (hR.mono (Nat.le_of_lt hlt.out))
    have hWr := Lib.hid ((((((Wrote.start hblk).set (i := 0) (.int .i64 (rd s 1 3))).set (i := 1) (.int .i64 (rd s 3 7))).set (i := 2) (.int .i64 (rd s 7 9))).set (i := 3) (.int .i64 (rd s 9 10))).set (i := 4) (.int .i64 (rd s 10 11)))
    clear hsp hk hK hall hR
    obtain ⟨W3, hW3⟩ : ∃ W3, W3 = ((((W2.setCell ⟨w.heap.size, 0, none⟩ (.int .i64 (rd s 1 3))).setCell ⟨w.heap.size, 1, none⟩ (.int .i64 (rd s 3 7))).setCell ⟨w.heap.size, 2, none⟩ (.int .i64 (rd s 7 9))).setCell ⟨w.heap.size, 3, none⟩ (.int .i64 (rd s 9 10))).setCell ⟨w.heap.size, 4, none⟩ (.int .i64 (rd s 10 11)) := ⟨_, rfl⟩
    have hW := hWr.out
    rw [← hW3] at hW
    replace hW3 := Lib.hid hW3
    have hB3 := Lib.hid (show Below w.heap.size w W3 from hB.trans hW.below)
    have y0 : W3.cell? ⟨w.heap.size, 0, none⟩ = some (.int .i64 (rd s 1 3)) := Joins.cell_of_block hW.at_ 0
    have y1 : W3.cell? ⟨w.heap.size, 1, none⟩ = some (.int .i64 (rd s 3 7)) := Joins.cell_of_block hW.at_ 1
    have y2 : W3.cell? ⟨w.heap.size, 2, none⟩ = some (.int .i64 (rd s 7 9)) := Joins.cell_of_block hW.at_ 2
    have y3 : W3.cell? ⟨w.heap.size, 3, none⟩ = some (.int .i64 (rd s 9 10)) := Joins.cell_of_block hW.at_ 3
    have y4 : W3.cell? ⟨w.heap.size, 4, none⟩ = some (.int .i64 (rd s 10 11)) := Joins.cell_of_block hW.at_ 4
    clear hW hWr hB
    obtain ⟨tm, df⟩ := a
    have e := arr_out tm 20 hn
    replace e : tm = #[tm.getD 0 undef, tm.getD 1 undef, tm.getD 2 undef, tm.getD 3 undef, tm.getD 4 undef, tm.getD 5 undef, tm.getD 6 undef, tm.getD 7 undef, tm.getD 8 undef, tm.getD 9 undef, tm.getD 10 undef, tm.getD 11 undef, tm.getD 12 undef, tm.getD 13 undef, tm.getD 14 undef, tm.getD 15 undef, tm.getD 16 undef, tm.getD 17 undef, tm.getD 18 undef, tm.getD 19 undef] := e
    simp only at s0 s2 s19 hdf
    rw [s0, s2, s19] at e
    subst hdf
    clear s0 s2 s19 hn
    generalize tm.getD 1 undef = u1 at e
    generalize tm.getD 3 undef = u3 at e
    generalize tm.getD 4 undef = u4 at e
    generalize tm.getD 5 undef = u5 at e
    generalize tm.getD 6 undef = u6 at e
    generalize tm.getD 7 undef = u7 at e
    generalize tm.getD 8 undef = u8 at e
    generalize tm.getD 9 undef = u9 at e
    generalize tm.getD 10 undef = u10 at e
    generalize tm.getD 11 undef = u11 at e
    generalize tm.getD 12 undef = u12 at e
    generalize tm.getD 13 undef = u13 at e
    generalize tm.getD 14 undef = u14 at e
    generalize tm.getD 15 undef = u15 at e
    generalize tm.getD 16 undef = u16 at e
    generalize tm.getD 17 undef = u17 at e
    generalize tm.getD 18 undef = u18 at e
    subst e
    have e0 : W2.cell? ⟨w.heap.size, 0, none⟩ = some (.int .i64 0) := Joins.cell_of_block hblk 0
    have e1 : W2.cell? ⟨w.heap.size, 1, none⟩ = some (.int .i64 0) := Joins.cell_of_block hblk 1
    have e2 : W2.cell? ⟨w.heap.size, 2, none⟩ = some (.int .i64 0) := Joins.cell_of_block hblk 2
    have e3 : W2.cell? ⟨w.heap.size, 3, none⟩ = some (.int .i64 0) := Joins.cell_of_block hblk 3
    have e4 : W2.cell? ⟨w.heap.size, 4, none⟩ = some (.int .i64 0) := Joins.cell_of_block hblk 4
    have f0 : W2.frozen? ⟨w.heap.size, 0, none⟩ = false := Joins.unfrozen_of_block hblk 0
    have f1 : W2.frozen? ⟨w.heap.size, 1, none⟩ = false := Joins.unfrozen_of_block hblk 1
    have f2 : W2.frozen? ⟨w.heap.size, 2, none⟩ = false := Joins.unfrozen_of_block hblk 2
    have f3 : W2.frozen? ⟨w.heap.size, 3, none⟩ = false := Joins.unfrozen_of_block hblk 3
    have f4 : W2.frozen? ⟨w.heap.size, 4, none⟩ = false := Joins.unfrozen_of_block hblk 4
    clear hblk
    go_simp
    rw [← hW3.out]
    refine hK2 _ ?_
    show Exit.then _ _ _ _ _
    simp only [Exit.then]
    go_wp2_with fail
    refine bodyPost_ret (v := cv (rd s 1 3) (rd s 3 7) (rd s 7 9) (rd s 9 10) (rd s 10 11)) (by simp [results, Try.results21, go_sem, y0, y1, y2, y3, y4]) rfl ⟨rfl, hB3.out⟩
end Go.Proofs.Ytlgfogllkoabpaa.QMacP
