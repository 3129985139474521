/-
  fdb.isBucket, Right.
-/
import Derived.Test.YtnghilcjecjljaaFdbG
namespace Go.Proofs.Ytnghilcjecjljaa.FdbP
open Go.RowKit Go.Sort Go.Proofs.Ytnghilcjecjljaa.SliceP Go.Proofs.Ytnghilcjecjljaa.MacP
set_option linter.unusedVariables false
set_option maxRecDepth 100000

theorem arr4 (cs : Array Value) (h : cs.size = 4) : ∃ v0 v1 v2 v3, cs = #[v0, v1, v2, v3] := by
  have e := arr_out cs 4 h
  exact ⟨_, _, _, _, e⟩
theorem arr3 (cs : Array Value) (h : cs.size = 3) : ∃ v0 v1 v2, cs = #[v0, v1, v2] := by
  have e := arr_out cs 3 h
  exact ⟨_, _, _, e⟩
def entOk (nb : Nat) (k : Nat) (l : List E) (i : Nat) : Bool := match l[i]? with
  | some x => (findE (l.take i) x.mac).isNone && (rightE x && (bucketI x.mac nb == (k : Int)))
  | none => true
def bucketOk (nb : Nat) (s : Int) (k : Nat) (l : List E) : Bool := decide ((l.length : Int) ≤ s) && (List.range l.length).all (entOk nb k l)
theorem bucketOk_no {nb : Nat} {s : Int} {k : Nat} {l : List E} {i : Nat} (hi : i < l.length) (h : entOk nb k l i = false) : bucketOk nb s k l = false := by
  unfold bucketOk
  rw [Bool.and_eq_false_iff]
  refine .inr ?_
  rw [List.all_eq_false]
  exact ⟨i, List.mem_range.2 hi, by rw [h]; simp⟩
theorem bucketOk_yes {nb : Nat} {s : Int} {k : Nat} {l : List E} (hl : (l.length : Int) ≤ s) (h : ∀ i, i < l.length → entOk nb k l i = true) : bucketOk nb s k l = true := by
  unfold bucketOk
  rw [Bool.and_eq_true, decide_eq_true_eq, List.all_eq_true]
  exact ⟨hl, fun i hi => h i (List.mem_range.1 hi)⟩
theorem bucketOk_long {nb : Nat} {s : Int} {k : Nat} {l : List E} (hl : ¬ (l.length : Int) ≤ s) : bucketOk nb s k l = false := by
  unfold bucketOk
  rw [Bool.and_eq_false_iff]
  exact .inl (by simpa using hl)
def IsB (w : World) (r : Bool) (e : Ending) (w' : World) : Prop := e = .returned (.bool r) ∧ Below w.heap.size w w'
set_option maxHeartbeats 8000000 in
theorem isBucket_any {A : Option Addr} {n c : Nat} {bs : List (List E)} (s ag : Int) {w : World} (ht : TabS w A n c bs) (hn : numB (bs.length : Int) = true) {k : Nat} {l : List E} (hk : bs[k]? = some l) (hl : l.length ≤ 1000000) :
    Calls Try.prog 40 #[tbv (.slice A n c) s ag, .int .i64 k] w (IsB w (bucketOk bs.length s k l)) := by
  obtain rfl := ht.len
  obtain ⟨b, o, A', n', c', rfl, hbw, y3, hr⟩ := ht.at_ k _ hk
  obtain rfl := hr.len
  have hkl : k < bs.length := (List.getElem?_eq_some_iff.1 hk).1
  obtain ⟨w0, hw0⟩ : ∃ w0, w0 = w.alloc (tObj (.slice (some ⟨b, o, none⟩) bs.length c) s ag) := ⟨_, rfl⟩
  have B0 : Below w.heap.size w w0 := by rw [hw0]; exact (Below.refl _ _).alloc (Nat.le_refl _) _
  have Y : Bx w0 w.heap.size 24 #[.slice (some ⟨b, o, none⟩) bs.length c, .int .i64 s, .int .i64 ag] := by rw [hw0]; exact Bx.new w _ _ rfl
  have hz0 : w0.heap.size = w.heap.size + 1 := by rw [hw0]; simp
  have hz1 : w.heap.size + 1 ≤ w0.heap.size := by omega
  have hz2 : w.heap.size < w0.heap.size := by omega
  have HN := Lib.hid hn
  have HR := Lib.hid hr
  have ht0 := Lib.hid ht
  replace Y := Lib.hid Y
  clear hn hr hz0 hk ht
  by_cases hls : (l.length : Int) ≤ s
  · have hls' : decide (s < (l.length : Int)) = false := by simpa using hls
    go_enter Try.func40, Try.ntmps40
    go_wp2_with fail
    rw [← hw0]
    clear hw0 y3 hls' hbw
    go_loopw [22] (fun i wr => ∃ i' : Nat, i' ≤ l.length ∧ i = .int .i64 i' ∧ (∀ j, j < i' → entOk bs.length k l j = true) ∧ Below w0.heap.size w0 wr) (fun i _ => l.length - (intOf i).toNat)
    case atStart => exact ⟨0, by omega, rfl, fun j hj => by omega, Below.refl _ _⟩
    case round =>
      obtain ⟨i, hi, rfl, hall, hb⟩ := hrel
      replace hall := Lib.hid hall
      have Br := B0.trans (hb.mono (by omega))
      by_cases hlt : i < l.length
      · obtain ⟨x, hx⟩ : ∃ x, l[i]? = some x := ⟨_, List.getElem?_eq_getElem hlt⟩
        have hrr := HR.out.below Br
        obtain ⟨b', o', rfl, hbw', x0, x1, x2, x3⟩ := RowE.at_ hrr hx
        obtain ⟨W, hW⟩ : ∃ W, W = wr.alloc (eObj x.mac x.port x.seen x.st) := ⟨_, rfl⟩
        have BW : Below wr.heap.size wr W := by rw [hW]; exact (Below.refl _ _).alloc (Nat.le_refl _) _
        have XW : Bx W wr.heap.size 57 #[.int .i64 x.mac, .int .i64 x.port, .int .i64 x.seen, .bool x.st] := by rw [hW]; exact Bx.new _ _ _ rfl
        have RT := Lib.hid ((hrr.below BW).take i (Nat.le_of_lt hlt))
        have c0 := XW.c (i := 0) rfl
        replace XW := Lib.hid XW
        have YW := Lib.hid ((Y.out.below hb).below BW)
        have BB := Lib.hid (bt Br BW)
        have hzW : wr.heap.size < W.heap.size := XW.out.lt
        have hzr : w.heap.size < wr.heap.size := Nat.lt_of_lt_of_le hz2 hb.size
        have hicl : i ≤ c' := by have := hrr.cap; omega
        obtain ⟨oe, hoe⟩ : ∃ oe, findE (l.take i) x.mac = oe := ⟨_, rfl⟩
        obtain ⟨z, hz⟩ : ∃ z, oe.getD zE = z := ⟨_, rfl⟩
        obtain ⟨bo, hbo⟩ : ∃ z, oe.isSome = z := ⟨_, rfl⟩
        have hE := fun W' (hR : RowE W' (some ⟨b', o', none⟩) i c' (l.take i)) => entryOf_any hR (by rw [List.length_take]; omega) x.mac oe hoe
        rw [hz, hbo] at hE
        replace hE := Lib.hid hE
        have hent : entOk bs.length k l i = (oe.isNone && (rightE x && (bucketI x.mac bs.length == (k : Int)))) := by unfold entOk; rw [hx]; simp only; rw [hoe]
        replace hent := Lib.hid hent
        replace hoe := Lib.hid hoe
        replace hz := Lib.hid hz
        replace hbo := Lib.hid hbo
        replace hx := Lib.hid hx
        replace Br := Lib.hid Br
        replace hb := Lib.hid hb
        clear hrr
        have kx : wr.cell? ⟨b', o' + i * 4, none⟩ = _ := x0
        go_wp2_with fail
        rw [← hW]
        clear hW x0 x1 x2 x3 kx
        go_wp2_with fail
        refine Go.Proofs.Ytnghilcjecjljaa.MacP.wp_region_lit (by kernel_rfl) (fun ix => match ix with | 0 => 28 | 1 => 29 | 2 => 30 | 3 => 31 | 4 => 32 | 5 => 33 | 6 => 27 | 7 => 34 | 8 => 35 | 9 => 8 | 11 => 9 | _ => 0) 9 10 57 #[.int .i64 0, .int .i64 0, .int .i64 0, .bool false] #[.int .i64 z.mac, .int .i64 z.port, .int .i64 z.seen, .bool z.st] (by decide) (by decide) (by decide) (by kernel_rfl) (by kernel_rfl) (by kernel_rfl) rfl (fun ix v _ => match ix with | 0 => v = .slice (some ⟨b', o', none⟩) l.length c' | 1 => v = .int .i64 i | 2 => v = .slice (some ⟨b', o', none⟩) i c' | 3 => v = .pointer (some ⟨wr.heap.size, 0, none⟩) | 4 => v = .int .i64 x.mac | 5 => v = .tuple #[z.val, .bool bo] | 6 => v = .tuple #[z.val, .bool bo] | 7 => v = z.val | 8 => v = .bool bo | 11 => v = .bool bo | _ => True) (fun _ _ _ _ h _ => h) (fun _ _ _ _ _ h _ _ => h) ?_ ?_
        · refine ⟨?_, ?_, ?_, ?_, ?_, ?_, ?_, ?_, ?_, ?_, ?_, ?_, trivial⟩
          · as_aux_lemma =>
              intro a w1 K hb hdep hk hK
              replace hK : ∀ v w', v = .slice (some ⟨b', o', none⟩) l.length c' → Below w1.heap.size w1 w' → K (a.put (some 28) v) w' := hK
              have d5 : a.tmps.getD 5 undef = .slice (some ⟨b', o', none⟩) l.length c' := hk 5 (by kernel_rfl)
              clear hdep hk hb
              go_simp
              exact hK _ _ rfl (Below.refl _ _)
          · as_aux_lemma =>
              intro a w1 K hb hdep hk hK
              replace hK : ∀ v w', v = .int .i64 i → Below w1.heap.size w1 w' → K (a.put (some 29) v) w' := hK
              have d6 : a.tmps.getD 6 undef = .int .i64 i := hk 6 (by kernel_rfl)
              clear hdep hk hb
              go_simp
              exact hK _ _ rfl (Below.refl _ _)
          · as_aux_lemma =>
              intro a w1 K hb hdep hk hK
              replace hK : ∀ v w', v = .slice (some ⟨b', o', none⟩) i c' → Below w1.heap.size w1 w' → K (a.put (some 30) v) w' := hK
              have d28 : a.tmps.getD 28 undef = .slice (some ⟨b', o', none⟩) l.length c' := hdep ⟨0, .data⟩ (by simp) rfl (by decide) (by decide)
              have d29 : a.tmps.getD 29 undef = .int .i64 i := hdep ⟨1, .data⟩ (by simp) rfl (by decide) (by decide)
              have hci : ¬ (c' < i) := by omega
              clear hdep hk hb
              go_simp
              exact hK _ _ rfl (Below.refl _ _)
          · as_aux_lemma =>
              intro a w1 K hb hdep hk hK
              replace hK : ∀ v w', v = .pointer (some ⟨wr.heap.size, 0, none⟩) → Below w1.heap.size w1 w' → K (a.put (some 31) v) w' := hK
              have d7 : a.tmps.getD 7 undef = .pointer (some ⟨wr.heap.size, 0, none⟩) := hk 7 (by kernel_rfl)
              clear hdep hk hb
              go_simp
              exact hK _ _ rfl (Below.refl _ _)
          · as_aux_lemma =>
              intro a w1 K hb hdep hk hK
              replace hK : ∀ v w', v = .int .i64 x.mac → Below w1.heap.size w1 w' → K (a.put (some 32) v) w' := hK
              have d31 : a.tmps.getD 31 undef = .pointer (some ⟨wr.heap.size, 0, none⟩) := hdep ⟨3, .data⟩ (by simp) rfl (by decide) (by decide)
              have t0 := (hb.cell (p := ⟨wr.heap.size, 0, none⟩) hzW).trans c0
              clear hdep hk hb
              go_simp
              exact hK _ _ rfl (Below.refl _ _)
          · as_aux_lemma =>
              intro a w1 K hb hdep hk hK
              replace hK : ∀ v w', v = .tuple #[z.val, .bool bo] → Below w1.heap.size w1 w' → K (a.put (some 33) v) w' := hK
              have d30 : a.tmps.getD 30 undef = .slice (some ⟨b', o', none⟩) i c' := hdep ⟨2, .data⟩ (by simp) rfl (by decide) (by decide)
              have d32 : a.tmps.getD 32 undef = .int .i64 x.mac := hdep ⟨4, .data⟩ (by simp) rfl (by decide) (by decide)
              have H2 := Lib.hid (hE.out _ (RT.out.below hb))
              clear hdep hk hb
              go_simp
              refine H2.out.mono ?_
              rintro e w9 ⟨rfl, r1⟩
              exact hK _ _ rfl r1
          · as_aux_lemma =>
              intro a w1 K hb hdep hk hK
              replace hK : ∀ v w', v = .tuple #[z.val, .bool bo] → Below w1.heap.size w1 w' → K (a.put (some 27) v) w' := hK
              have d33 : a.tmps.getD 33 undef = .tuple #[z.val, .bool bo] := hdep ⟨5, .data⟩ (by simp) rfl (by decide) (by decide)
              clear hdep hk hb
              have q33 : a.tmps[33]?.getD undef = .tuple #[z.val, .bool bo] := by simpa [Array.getD_eq_getD_getElem?] using d33
              clear d33
              go_simp
              exact hK _ _ rfl (Below.refl _ _)
          · as_aux_lemma =>
              intro a w1 K hb hdep hk hK
              replace hK : ∀ v w', v = z.val → Below w1.heap.size w1 w' → K (a.put (some 34) v) w' := hK
              have d27 : a.tmps.getD 27 undef = .tuple #[z.val, .bool bo] := hdep ⟨6, .data⟩ (by simp) rfl (by decide) (by decide)
              clear hdep hk hb
              have q27 : a.tmps[27]?.getD undef = .tuple #[z.val, .bool bo] := by simpa [Array.getD_eq_getD_getElem?] using d27
              clear d27
              go_simp
              exact hK _ _ rfl (Below.refl _ _)
          · as_aux_lemma =>
              intro a w1 K hb hdep hk hK
              replace hK : ∀ v w', v = .bool bo → Below w1.heap.size w1 w' → K (a.put (some 35) v) w' := hK
              have d27 : a.tmps.getD 27 undef = .tuple #[z.val, .bool bo] := hdep ⟨6, .data⟩ (by simp) rfl (by decide) (by decide)
              clear hdep hk hb
              have q27 : a.tmps[27]?.getD undef = .tuple #[z.val, .bool bo] := by simpa [Array.getD_eq_getD_getElem?] using d27
              clear d27
              go_simp
              exact hK _ _ rfl (Below.refl _ _)
          · as_aux_lemma =>
              intro a w1 K hb hdep hk hK
              clear hdep hk hb
              go_simp
              exact hK
          · as_aux_lemma =>
              intro a w1 K hb hdep hk hK
              obtain ⟨b9, cs, h9, hblk, hcs, hK⟩ : ∃ b9 cs, a.tmps.getD 8 undef = .pointer (some ⟨b9, 0, none⟩) ∧ w1.heap[b9]? = some (.cells cs 57 (0, 0)) ∧ cs.size = 4 ∧ ∀ w', Wrote b9 #[.int .i64 z.mac, .int .i64 z.port, .int .i64 z.seen, .bool z.st] 57 w1 w' → K a w' := hK
              have d34 : a.tmps.getD 34 undef = z.val := hdep ⟨7, .data⟩ (by simp) rfl (by decide) (by decide)
              have q34 : a.tmps[34]?.getD undef = z.val := by simpa [Array.getD_eq_getD_getElem?] using d34
              clear d34
              obtain ⟨v0, v1, v2, v3, rfl⟩ : ∃ v0 v1 v2 v3, cs = #[v0, v1, v2, v3] := arr4 cs hcs
              clear hcs
              have g0 : w1.cell? ⟨b9, 0, none⟩ = some v0 := Joins.cell_of_block hblk 0
              have f0 : w1.frozen? ⟨b9, 0, none⟩ = false := frozen_of_row w1 b9 0 _ _ hblk
              have g1 : w1.cell? ⟨b9, 1, none⟩ = some v1 := Joins.cell_of_block hblk 1
              have f1 : w1.frozen? ⟨b9, 1, none⟩ = false := frozen_of_row w1 b9 1 _ _ hblk
              have g2 : w1.cell? ⟨b9, 2, none⟩ = some v2 := Joins.cell_of_block hblk 2
              have f2 : w1.frozen? ⟨b9, 2, none⟩ = false := frozen_of_row w1 b9 2 _ _ hblk
              have g3 : w1.cell? ⟨b9, 3, none⟩ = some v3 := Joins.cell_of_block hblk 3
              have f3 : w1.frozen? ⟨b9, 3, none⟩ = false := frozen_of_row w1 b9 3 _ _ hblk
              replace hblk := Lib.hid hblk
              clear hdep hk hb
              go_simp
              exact hK _ (((((Wrote.start hblk.out).set (i := 0) _).set (i := 1) _).set (i := 2) _).set (i := 3) _)
          · as_aux_lemma =>
              intro a w1 K hb hdep hk hK
              replace hK : ∀ v w', v = .bool bo → Below w1.heap.size w1 w' → K (a.put (some 9) v) w' := hK
              have d35 : a.tmps.getD 35 undef = .bool bo := hdep ⟨8, .data⟩ (by simp) rfl (by decide) (by decide)
              clear hdep hk hb
              go_simp
              exact hK _ _ rfl (Below.refl _ _)
        · intro a w1 b9 hb1 hsp hk h8 hzb hblk hn hdf
          have s0 : a.tmps.getD 0 undef = tbv (.slice (some ⟨b, o, none⟩) bs.length c) s ag := hk 0 (by kernel_rfl)
          have s1 : a.tmps.getD 1 undef = .int .i64 k := hk 1 (by kernel_rfl)
          have s2 : a.tmps.getD 2 undef = .pointer (some ⟨w.heap.size, 0, none⟩) := hk 2 (by kernel_rfl)
          have s3 : a.tmps.getD 3 undef = undef := hk 3 (by kernel_rfl)
          have s5 : a.tmps.getD 5 undef = .slice (some ⟨b', o', none⟩) l.length c' := hk 5 (by kernel_rfl)
          have s6 : a.tmps.getD 6 undef = .int .i64 i := hk 6 (by kernel_rfl)
          have s7 : a.tmps.getD 7 undef = .pointer (some ⟨wr.heap.size, 0, none⟩) := hk 7 (by kernel_rfl)
          have s10 : a.tmps.getD 10 undef = .pointer (some ⟨w.heap.size, 0, none⟩) := hk 10 (by kernel_rfl)
          have s11 : a.tmps.getD 11 undef = .slice (some ⟨b, o, none⟩) bs.length c := hk 11 (by kernel_rfl)
          have s12 : a.tmps.getD 12 undef = .int .i64 k := hk 12 (by kernel_rfl)
          have s13 : a.tmps.getD 13 undef = .pointer (some ⟨b, o + k, none⟩) := hk 13 (by kernel_rfl)
          have s14 : a.tmps.getD 14 undef = .slice (some ⟨b', o', none⟩) l.length c' := hk 14 (by kernel_rfl)
          have s15 : a.tmps.getD 15 undef = .slice (some ⟨b', o', none⟩) l.length c' := hk 15 (by kernel_rfl)
          have s16 : a.tmps.getD 16 undef = .int .i64 l.length := hk 16 (by kernel_rfl)
          have s17 : a.tmps.getD 17 undef = .pointer (some ⟨w.heap.size, 1, none⟩) := hk 17 (by kernel_rfl)
          have s18 : a.tmps.getD 18 undef = .int .i64 s := hk 18 (by kernel_rfl)
          have s19 : a.tmps.getD 19 undef = .bool false := hk 19 (by kernel_rfl)
          have s20 : a.tmps.getD 20 undef = .slice (some ⟨b', o', none⟩) l.length c' := hk 20 (by kernel_rfl)
          have s21 : a.tmps.getD 21 undef = .int .i64 l.length := hk 21 (by kernel_rfl)
          have s22 : a.tmps.getD 22 undef = .int .i64 i := hk 22 (by kernel_rfl)
          have s8 : a.tmps.getD 8 undef = .pointer (some ⟨b9, 0, none⟩) := h8
          have s9 : a.tmps.getD 9 undef = .bool bo := hsp 11 (by decide) (by decide) (by decide)
          clear hk hsp h8
          obtain ⟨tm, df⟩ := a
          have e := arr_out tm 51 hn
          replace e : tm = #[tm.getD 0 undef, tm.getD 1 undef, tm.getD 2 undef, tm.getD 3 undef, tm.getD 4 undef, tm.getD 5 undef, tm.getD 6 undef, tm.getD 7 undef, tm.getD 8 undef, tm.getD 9 undef, tm.getD 10 undef, tm.getD 11 undef, tm.getD 12 undef, tm.getD 13 undef, tm.getD 14 undef, tm.getD 15 undef, tm.getD 16 undef, tm.getD 17 undef, tm.getD 18 undef, tm.getD 19 undef, tm.getD 20 undef, tm.getD 21 undef, tm.getD 22 undef, tm.getD 23 undef, tm.getD 24 undef, tm.getD 25 undef, tm.getD 26 undef, tm.getD 27 undef, tm.getD 28 undef, tm.getD 29 undef, tm.getD 30 undef, tm.getD 31 undef, tm.getD 32 undef, tm.getD 33 undef, tm.getD 34 undef, tm.getD 35 undef, tm.getD 36 undef, tm.getD 37 undef, tm.getD 38 undef, tm.getD 39 undef, tm.getD 40 undef, tm.getD 41 undef, tm.getD 42 undef, tm.getD 43 undef, tm.getD 44 undef, tm.getD 45 undef, tm.getD 46 undef, tm.getD 47 undef, tm.getD 48 undef, tm.getD 49 undef, tm.getD 50 undef] := e
          simp only at s0 s1 s2 s3 s5 s6 s7 s10 s11 s12 s13 s14 s15 s16 s17 s18 s19 s20 s21 s22 s8 s9 hdf
          rw [s0, s1, s2, s3, s5, s6, s7, s10, s11, s12, s13, s14, s15, s16, s17, s18, s19, s20, s21, s22, s8, s9] at e
          subst hdf
          clear s0 s1 s2 s3 s5 s6 s7 s10 s11 s12 s13 s14 s15 s16 s17 s18 s19 s20 s21 s22 s8 s9 hn
          generalize tm.getD 4 undef = u4 at e
          generalize tm.getD 23 undef = u23 at e
          generalize tm.getD 24 undef = u24 at e
          generalize tm.getD 25 undef = u25 at e
          generalize tm.getD 26 undef = u26 at e
          generalize tm.getD 27 undef = u27 at e
          generalize tm.getD 28 undef = u28 at e
          generalize tm.getD 29 undef = u29 at e
          generalize tm.getD 30 undef = u30 at e
          generalize tm.getD 31 undef = u31 at e
          generalize tm.getD 32 undef = u32 at e
          generalize tm.getD 33 undef = u33 at e
          generalize tm.getD 34 undef = u34 at e
          generalize tm.getD 35 undef = u35 at e
          generalize tm.getD 36 undef = u36 at e
          generalize tm.getD 37 undef = u37 at e
          generalize tm.getD 38 undef = u38 at e
          generalize tm.getD 39 undef = u39 at e
          generalize tm.getD 40 undef = u40 at e
          generalize tm.getD 41 undef = u41 at e
          generalize tm.getD 42 undef = u42 at e
          generalize tm.getD 43 undef = u43 at e
          generalize tm.getD 44 undef = u44 at e
          generalize tm.getD 45 undef = u45 at e
          generalize tm.getD 46 undef = u46 at e
          generalize tm.getD 47 undef = u47 at e
          generalize tm.getD 48 undef = u48 at e
          generalize tm.getD 49 undef = u49 at e
          generalize tm.getD 50 undef = u50 at e
          subst e
          have X1 := XW.out.below hb1
          have Y1 := YW.out.below hb1
          have B1 := bt BB.out hb1
          have hbw1 := (hb.out.trans (BW.mono hb.out.size)).trans (hb1.mono (by have := hb.out.size; have := BW.size; omega))
          replace hbw1 := Lib.hid hbw1
          have e0 := X1.c (i := 0) rfl
          have e1 := X1.c (i := 1) rfl
          have e2 := X1.c (i := 2) rfl
          have e3 := X1.c (i := 3) rfl
          have t0 := Y1.c (i := 0) rfl
          have t1 := Y1.c (i := 1) rfl
          have t2 := Y1.c (i := 2) rfl
          replace X1 := Lib.hid X1
          replace Y1 := Lib.hid Y1
          replace B1 := Lib.hid B1
          have hzw : w.heap.size < w1.heap.size := Y1.out.lt
          have hzx : wr.heap.size < w1.heap.size := X1.out.lt
          clear hblk hb1 hE RT XW YW BB c0 hzb
          simp only [Exit.then]
          as_aux_lemma =>
            cases bo with
            | true =>
              have hno := Lib.hid (bucketOk_no (s := s) hlt (show entOk bs.length k l i = false by
                rw [hent.out]
                cases oe with
                | none => exact absurd hbo.out (by simp)
                | some y => simp only [Option.isNone_some, Bool.false_and]))
              as_aux_lemma =>
                go_wp2_with fail
                go_ret
                exact ⟨by rw [hno.out]; rfl, B1.out⟩
            | false =>
              have hent2 : Hid (entOk bs.length k l i = (rightE x && (bucketI x.mac bs.length == (k : Int)))) := Lib.hid (by
                rw [hent.out]
                cases oe with
                | none => simp only [Option.isNone_none, Bool.true_and]
                | some y => exact absurd hbo.out (by simp))
              clear hent hbo hoe hz
              cases hri : rightE x with
              | false =>
                have hno := Lib.hid (bucketOk_no (s := s) hlt (show entOk bs.length k l i = false by rw [hent2.out, hri, Bool.false_and]))
                replace hri := Lib.hid hri
                as_aux_lemma =>
                  go_wp2_with fail
                  go_at_call 66
                  (with_reducible refine (isRight_is x _ _ hri.out).mono ?_)
                  rintro e w2 ⟨rfl, hb2⟩
                  have B2 := Lib.hid (bt B1.out hb2)
                  clear hb2 e0 e1 e2 e3 t0 t1 t2
                  go_wp2_with fail
                  go_ret
                  exact ⟨by rw [hno.out]; rfl, B2.out⟩
              | true =>
                obtain ⟨m0, m1⟩ := rightE_mac hri
                have hent3 : Hid (entOk bs.length k l i = (bucketI x.mac bs.length == (k : Int))) := Lib.hid (by rw [hent2.out, hri, Bool.true_and])
                clear hent2
                replace hri := Lib.hid hri
                as_aux_lemma =>
                  go_wp2_with fail
                  go_at_call 66
                  (with_reducible refine (isRight_is x _ _ hri.out).mono ?_)
                  rintro e w2 ⟨rfl, hb2⟩
                  have B2 := Lib.hid (bt B1.out hb2)
                  have u0 := (Y1.out.below hb2).c (i := 0) rfl
                  have u1 := (Y1.out.below hb2).c (i := 1) rfl
                  have u2 := (Y1.out.below hb2).c (i := 2) rfl
                  have u3 := (X1.out.below hb2).c (i := 0) rfl
                  have hbw2 := Lib.hid (hbw1.out.trans (hb2.mono hbw1.out.size))
                  clear hb2 e0 e1 e2 e3 t0 t1 t2 hbw1 B1
                  go_wp2_with fail
                  go_at_call 61
                  (with_reducible refine (placeOf_any s ag x.mac _ m0 m1 HN.out).mono ?_)
                  rintro e w3 ⟨rfl, hb3⟩
                  have B3 := Lib.hid (bt B2.out hb3)
                  have hbw3 := Lib.hid (hbw2.out.trans (hb3.mono hbw2.out.size))
                  clear hb3 u0 u1 u2 u3 hbw2 B2
                  generalize bucketI x.mac bs.length = bk at *
                  cases hbk : (bk == (k : Int)) with
                  | false =>
                    have hno := Lib.hid (bucketOk_no (s := s) hlt (show entOk bs.length k l i = false by rw [hent3.out, hbk]))
                    have hbn : (bk != (k : Int)) = true := by rw [bne, hbk]; rfl
                    clear hent3
                    go_wp2_with fail
                    go_ret
                    exact ⟨by rw [hno.out]; rfl, B3.out⟩
                  | true =>
                    have hyes := Lib.hid (show entOk bs.length k l i = true by rw [hent3.out, hbk])
                    have hbn : (bk != (k : Int)) = false := by rw [bne, hbk]; rfl
                    clear hent3
                    go_wp2_with fail
                    go_roundw
                    case rel => exact ⟨i + 1, by omega, by go_num, fun j hj => by
                      rcases Nat.lt_or_ge j i with h | h
                      · exact hall.out j h
                      · obtain rfl : j = i := by omega
                        exact hyes.out, hbw3.out⟩
                    case measure => simp [intOf]; omega
      · obtain rfl : i = l.length := by omega
        have hyes := Lib.hid (bucketOk_yes (nb := bs.length) (k := k) hls hall.out)
        replace Br := Lib.hid Br
        go_wp2_with fail
        go_ret
        exact ⟨by rw [hyes.out]; rfl, Br.out⟩
  · have hls' : decide (s < (l.length : Int)) = true := by simp; omega
    have hno := Lib.hid (bucketOk_long (nb := bs.length) (k := k) hls)
    go_enter Try.func40, Try.ntmps40
    go_wp2_with fail
    go_ret
    exact ⟨by rw [hno.out]; rfl, by rw [hw0] at B0; exact B0⟩
end Go.Proofs.Ytnghilcjecjljaa.FdbP
