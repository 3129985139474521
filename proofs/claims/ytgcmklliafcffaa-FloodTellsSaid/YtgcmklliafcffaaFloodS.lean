/-
  Contracts of flood.Reach, Steps, and of Copies, Path where they refuse.
-/
import Derived.Test.YtgcmklliafcffaaFloodR
import Derived.Sort.OwnSortedInts
import Derived.BigRegion
namespace Go.Proofs.Ytgcmklliafcffaa.LanP
open Go.RowKit Go.Sort Go.Proofs.Ytgcmklliafcffaa.SliceP Go.Proofs.Ytgcmklliafcffaa.BoxP
open Go.Proofs.Ytgcmklliafcffaa.IntP (RowI SlI OwnI)
open Go.Proofs.Ytgcmklliafcffaa.BoolP (RowB SlB OwnB)
open Go.Proofs.Ytgcmklliafcffaa.MacP (arr_out Wrote wp_region_ends outM)
set_option linter.unusedVariables false
set_option maxRecDepth 100000
theorem row_one (w : World) (l : List Int) (hl : l.length ≤ 1000) : Row ic 1 (w.alloc (.cells (l.map (Value.int .i64)).toArray 3)) (some ⟨w.heap.size, 0, none⟩) l.length l.length l :=
  Row.own (IntP.own_lit w (l.map (Value.int .i64)).toArray l w.heap.size l.length (Nat.le_refl _) rfl (by rw [IntP.cI_flat]) (by omega)) (by decide)
theorem map_ic (Q : List Int) : (Q.map ic).flatten = Q.map (Value.int .i64) := by induction Q with | nil => rfl | cons a Q ih => simp [ih]
theorem own_sorted {w : World} {B g c n : Nat} {Q S : List Int} {os : Array Obj} (ho : Own w B 3 1 (.slice (some ⟨g, 0, none⟩) Q.length c) (Q.map ic)) (hl : S.length = Q.length) :
    Own (Go.Sort.grow (Go.Sort.putRow (Value.int .i64) (Go.Sort.ahead w n) g 0 S.toArray) os) B 3 1 (.slice (some ⟨g, 0, none⟩) Q.length c) (S.map ic) := by
  refine ⟨?_, wholeI S⟩
  obtain ⟨h1, h2⟩ := ho.row
  rw [List.length_map] at h2
  rcases h2 with ⟨h, _⟩ | ⟨g', cap, cur, hv, hb, hc, h3, h4, h5, h6⟩
  · cases h
  · cases hv
    have := ownsRow_sortedI (n := n) (os := os) (ss := Q) (ts := S) hl hb hc h3 h4 h5
    rw [map_ic, List.length_map, hl]; exact this
set_option maxHeartbeats 4000000 in
theorem o_reach_no {l : L} {O : List (List Bool)} {A : Option Addr} {c : Nat} {B : Option Addr} {d : Nat} {C : Option Addr} {e : Nat} {w : World} (hr : LanR w l A c B d) (hs : Small l) (hR : RowL bc w C O.length e O) (hO : O.length ≤ 1000) (hO2 : ∀ r ∈ O, r.length ≤ 1000) (s : Int) {er : Int} (he : whyO l O [s] = er) (h0 : er ≠ 0) :
    Calls Try.prog 23 #[lv l A c B d, .slice C O.length e, .int .i64 s] w fun en w' => en = .returned (.tuple #[.slice none 0 0, .int .i64 er]) ∧ Below w.heap.size w w' := by
  have hne : (er != 0) = true := by simpa using h0
  replace h0 := Lib.hid h0
  obtain ⟨w0, hw0, X0, R0, B0⟩ := new3 w hr
  obtain ⟨w1, hw1⟩ : ∃ W, W = w0.alloc (.cells #[.int .i64 s] 3) := ⟨_, rfl⟩
  have hz0 : w0.heap.size = w.heap.size + 1 := by rw [hw0]; simp
  obtain ⟨n1, hn1⟩ : ∃ n, n = w.heap.size + 1 := ⟨_, rfl⟩
  have b1 : Below w0.heap.size w0 w1 := by rw [hw1]; exact (Below.refl _ _).alloc (Nat.le_refl _) _
  have B1 := Lib.hid (bt B0 b1)
  have X1 := Lib.hid (X0.below b1)
  have S1 : Row ic 1 w1 (some ⟨n1, 0, none⟩) 1 1 [s] := by rw [hw1, hn1, ← hz0]; exact row_one w0 [s] (by simp)
  have hck := Lib.hid (show Calls Try.prog 51 #[lv l A c B d, .slice C O.length e, .slice (some ⟨n1, 0, none⟩) 1 1] w1 _ from o_check17 (R0.below b1) hs ((hR.below B0).below b1) hO hO2 (ss := [s]) S1 (by simp) he)
  replace hz0 := Lib.hid hz0
  clear hr hs hR R0 X0 B0 b1 S1 hO hO2 he X1
  go_enter Try.func23, Try.ntmps23
  go_wp2_with fail
  rw [← hn1, ← hw0, ← hw1]
  clear hw0 hw1 hn1
  go_at_call 51
  (with_reducible refine hck.out.mono ?_)
  rintro e1 w2 ⟨rfl, hb2⟩
  have B2 := Lib.hid (bt B1.out hb2)
  clear hb2 hck
  go_wp2_with fail
  go_ret2
  exact ⟨rfl, B2.out⟩
set_option maxHeartbeats 4000000 in
theorem o_steps_no {l : L} {O : List (List Bool)} {A : Option Addr} {c : Nat} {B : Option Addr} {d : Nat} {C : Option Addr} {e : Nat} {w : World} (hr : LanR w l A c B d) (hs : Small l) (hR : RowL bc w C O.length e O) (hO : O.length ≤ 1000) (hO2 : ∀ r ∈ O, r.length ≤ 1000) (s : Int) {er : Int} (he : whyO l O [s] = er) (h0 : er ≠ 0) :
    Calls Try.prog 24 #[lv l A c B d, .slice C O.length e, .int .i64 s] w fun en w' => en = .returned (.tuple #[.slice none 0 0, .int .i64 er]) ∧ Below w.heap.size w w' := by
  have hne : (er != 0) = true := by simpa using h0
  replace h0 := Lib.hid h0
  obtain ⟨w0, hw0, X0, R0, B0⟩ := new3 w hr
  obtain ⟨w1, hw1⟩ : ∃ W, W = w0.alloc (.cells #[.int .i64 s] 3) := ⟨_, rfl⟩
  have hz0 : w0.heap.size = w.heap.size + 1 := by rw [hw0]; simp
  obtain ⟨n1, hn1⟩ : ∃ n, n = w.heap.size + 1 := ⟨_, rfl⟩
  have b1 : Below w0.heap.size w0 w1 := by rw [hw1]; exact (Below.refl _ _).alloc (Nat.le_refl _) _
  have B1 := Lib.hid (bt B0 b1)
  have X1 := Lib.hid (X0.below b1)
  have S1 : Row ic 1 w1 (some ⟨n1, 0, none⟩) 1 1 [s] := by rw [hw1, hn1, ← hz0]; exact row_one w0 [s] (by simp)
  have hck := Lib.hid (show Calls Try.prog 51 #[lv l A c B d, .slice C O.length e, .slice (some ⟨n1, 0, none⟩) 1 1] w1 _ from o_check17 (R0.below b1) hs ((hR.below B0).below b1) hO hO2 (ss := [s]) S1 (by simp) he)
  replace hz0 := Lib.hid hz0
  clear hr hs hR R0 X0 B0 b1 S1 hO hO2 he X1
  go_enter Try.func24, Try.ntmps24
  go_wp2_with fail
  rw [← hn1, ← hw0, ← hw1]
  clear hw0 hw1 hn1
  go_at_call 51
  (with_reducible refine hck.out.mono ?_)
  rintro e1 w2 ⟨rfl, hb2⟩
  have B2 := Lib.hid (bt B1.out hb2)
  clear hb2 hck
  go_wp2_with fail
  go_ret2
  exact ⟨rfl, B2.out⟩
set_option maxHeartbeats 4000000 in
theorem o_copies_no {l : L} {O : List (List Bool)} {A : Option Addr} {c : Nat} {B : Option Addr} {d : Nat} {C : Option Addr} {e : Nat} {w : World} (hr : LanR w l A c B d) (hs : Small l) (hR : RowL bc w C O.length e O) (hO : O.length ≤ 1000) (hO2 : ∀ r ∈ O, r.length ≤ 1000) (s : Int) {er : Int} (he : whyO l O [s] = er) (h0 : er ≠ 0) :
    Calls Try.prog 25 #[lv l A c B d, .slice C O.length e, .int .i64 s] w fun en w' => en = .returned (.tuple #[.int .i64 0, .int .i64 er]) ∧ Below w.heap.size w w' := by
  have hne : (er != 0) = true := by simpa using h0
  replace h0 := Lib.hid h0
  obtain ⟨w0, hw0, X0, R0, B0⟩ := new3 w hr
  obtain ⟨w1, hw1⟩ : ∃ W, W = w0.alloc (.cells #[.int .i64 s] 3) := ⟨_, rfl⟩
  have hz0 : w0.heap.size = w.heap.size + 1 := by rw [hw0]; simp
  obtain ⟨n1, hn1⟩ : ∃ n, n = w.heap.size + 1 := ⟨_, rfl⟩
  have b1 : Below w0.heap.size w0 w1 := by rw [hw1]; exact (Below.refl _ _).alloc (Nat.le_refl _) _
  have B1 := Lib.hid (bt B0 b1)
  have X1 := Lib.hid (X0.below b1)
  have S1 : Row ic 1 w1 (some ⟨n1, 0, none⟩) 1 1 [s] := by rw [hw1, hn1, ← hz0]; exact row_one w0 [s] (by simp)
  have hck := Lib.hid (show Calls Try.prog 51 #[lv l A c B d, .slice C O.length e, .slice (some ⟨n1, 0, none⟩) 1 1] w1 _ from o_check17 (R0.below b1) hs ((hR.below B0).below b1) hO hO2 (ss := [s]) S1 (by simp) he)
  replace hz0 := Lib.hid hz0
  clear hr hs hR R0 X0 B0 b1 S1 hO hO2 he X1
  go_enter Try.func25, Try.ntmps25
  go_wp2_with fail
  rw [← hn1, ← hw0, ← hw1]
  clear hw0 hw1 hn1
  go_at_call 51
  (with_reducible refine hck.out.mono ?_)
  rintro e1 w2 ⟨rfl, hb2⟩
  have B2 := Lib.hid (bt B1.out hb2)
  clear hb2 hck
  go_wp2_with fail
  go_ret2
  exact ⟨rfl, B2.out⟩
set_option maxHeartbeats 4000000 in
theorem o_path_no {l : L} {O : List (List Bool)} {A : Option Addr} {c : Nat} {B : Option Addr} {d : Nat} {C : Option Addr} {e : Nat} {w : World} (hr : LanR w l A c B d) (hs : Small l) (hR : RowL bc w C O.length e O) (hO : O.length ≤ 1000) (hO2 : ∀ r ∈ O, r.length ≤ 1000) (s u : Int) {er : Int} (he : whyO l O [s, u] = er) (h0 : er ≠ 0) :
    Calls Try.prog 26 #[lv l A c B d, .slice C O.length e, .int .i64 s, .int .i64 u] w fun en w' => en = .returned (.tuple #[.slice none 0 0, .int .i64 er]) ∧ Below w.heap.size w w' := by
  have hne : (er != 0) = true := by simpa using h0
  replace h0 := Lib.hid h0
  obtain ⟨w0, hw0, X0, R0, B0⟩ := new3 w hr
  obtain ⟨w1, hw1⟩ : ∃ W, W = w0.alloc (.cells #[.int .i64 s, .int .i64 u] 3) := ⟨_, rfl⟩
  have hz0 : w0.heap.size = w.heap.size + 1 := by rw [hw0]; simp
  obtain ⟨n1, hn1⟩ : ∃ n, n = w.heap.size + 1 := ⟨_, rfl⟩
  have b1 : Below w0.heap.size w0 w1 := by rw [hw1]; exact (Below.refl _ _).alloc (Nat.le_refl _) _
  have B1 := Lib.hid (bt B0 b1)
  have X1 := Lib.hid (X0.below b1)
  have S1 : Row ic 1 w1 (some ⟨n1, 0, none⟩) 2 2 [s, u] := by rw [hw1, hn1, ← hz0]; exact row_one w0 [s, u] (by simp)
  have hck := Lib.hid (show Calls Try.prog 51 #[lv l A c B d, .slice C O.length e, .slice (some ⟨n1, 0, none⟩) 2 2] w1 _ from o_check17 (R0.below b1) hs ((hR.below B0).below b1) hO hO2 (ss := [s, u]) S1 (by simp) he)
  replace hz0 := Lib.hid hz0
  clear hr hs hR R0 X0 B0 b1 S1 hO hO2 he X1
  go_enter Try.func26, Try.ntmps26
  go_wp2_with fail
  rw [← hn1, ← hw0, ← hw1]
  clear hw0 hw1 hn1
  go_at_call 51
  (with_reducible refine hck.out.mono ?_)
  rintro e1 w2 ⟨rfl, hb2⟩
  have B2 := Lib.hid (bt B1.out hb2)
  clear hb2 hck
  go_wp2_with fail
  go_ret2
  exact ⟨rfl, B2.out⟩
set_option maxHeartbeats 8000000 in
theorem o_steps_ok {l : L} {O : List (List Bool)} {A : Option Addr} {c : Nat} {B : Option Addr} {d : Nat} {C : Option Addr} {e : Nat} {w : World} (hr : LanR w l A c B d) (hs : Small l) (hR : RowL bc w C O.length e O) (hO : O.length ≤ 1000) (hO2 : ∀ r ∈ O, r.length ≤ 1000) (s : Int) (he : whyO l O [s] = 0) :
    Calls Try.prog 24 #[lv l A c B d, .slice C O.length e, .int .i64 s] w fun en w' => ∃ A' c', en = .returned (.tuple #[.slice A' (stpR (l.op O) s).length c', .int .i64 0]) ∧ Row ic 1 w' A' (stpR (l.op O) s).length c' (stpR (l.op O) s) ∧ Below w.heap.size w w' := by
  obtain ⟨hok, hrw, hin⟩ := whyO_zero he
  obtain ⟨w0, hw0, X0, R0, B0⟩ := new3 w hr
  obtain ⟨w1, hw1⟩ : ∃ W, W = w0.alloc (.cells #[.int .i64 s] 3) := ⟨_, rfl⟩
  have hz0 : w0.heap.size = w.heap.size + 1 := by rw [hw0]; simp
  obtain ⟨n1, hn1⟩ : ∃ n, n = w.heap.size + 1 := ⟨_, rfl⟩
  have b1 : Below w0.heap.size w0 w1 := by rw [hw1]; exact (Below.refl _ _).alloc (Nat.le_refl _) _
  have B1 := Lib.hid (bt B0 b1)
  have X1 := Lib.hid (X0.below b1)
  have S1 : Row ic 1 w1 (some ⟨n1, 0, none⟩) 1 1 [s] := by rw [hw1, hn1, ← hz0]; exact row_one w0 [s] (by simp)
  have hck := Lib.hid (show Calls Try.prog 51 #[lv l A c B d, .slice C O.length e, .slice (some ⟨n1, 0, none⟩) 1 1] w1 _ from o_check17 (R0.below b1) hs ((hR.below B0).below b1) hO hO2 (ss := [s]) S1 (by simp) he)
  have hop := Lib.hid (fun W (hW : Below w1.heap.size w1 W) => o_opened ((R0.below b1).below hW) hs (((hR.below B0).below b1).below hW) hrw)
  have hpo := op_ok O hok
  have hps := op_small O hs
  have hpf := ok_fit hpo
  have hp0 := (hin s (by simp)).1
  have hp1 : s < (l.op O).segs := (hin s (by simp)).2
  have hst := Lib.hid (fun A' c' W (hW : LanR W (l.op O) A' c' none 0) => o_stepsfrom hW hps hpo hp0 hp1)
  obtain ⟨m, hm⟩ : ∃ m, l.op O = m := ⟨_, rfl⟩
  rw [hm] at hop hst ⊢
  replace hz0 := Lib.hid hz0
  replace hm := Lib.hid hm
  clear hr hs hR R0 X0 B0 b1 S1 hO hO2 he hok hrw hin hpo hps hpf hp0 hp1
  go_enter Try.func24, Try.ntmps24
  go_wp2_with fail
  rw [← hn1, ← hw0, ← hw1]
  clear hw0 hw1 hn1
  go_at_call 51
  (with_reducible refine hck.out.mono ?_)
  rintro e1 w2 ⟨rfl, hb2⟩
  have X2 := Lib.hid (X1.out.below hb2)
  have B2 := Lib.hid (bt B1.out hb2)
  have hop2 := Lib.hid (hop.out w2 hb2)
  clear hb2 hck X1 B1 hop
  have x0 := X2.out.c (i := 0) rfl
  have x1 := X2.out.c (i := 1) rfl
  have x2 := X2.out.c (i := 2) rfl
  have zz := X2.out.lt
  go_wp2_with fail
  go_at_call 53
  (with_reducible refine hop2.out.mono ?_)
  rintro e1 w3 ⟨A3, c3, rfl, hL3, hb3⟩
  have B3 := Lib.hid (bt B2.out hb3)
  have hs3 := Lib.hid (hst.out A3 c3 w3 (hL3 _ (Stay.refl _ _)))
  clear hL3 hb3 x0 x1 x2 zz hop2 hst X2
  go_wp2_with fail
  go_at_call 56
  (with_reducible refine hs3.out.mono ?_)
  rintro e1 w4 ⟨A4, c4, rfl, o4, hb4⟩
  have R4 := Lib.hid (Row.own o4 (by decide))
  have B4 := Lib.hid (bt B3.out hb4)
  clear o4 hb4 hs3
  go_wp2_with fail
  go_ret2
  exact ⟨A4, c4, rfl, R4.out, B4.out⟩
set_option maxHeartbeats 8000000 in
theorem o_reach_ok {l : L} {O : List (List Bool)} {A : Option Addr} {c : Nat} {B : Option Addr} {d : Nat} {C : Option Addr} {e : Nat} {w : World} (hr : LanR w l A c B d) (hs : Small l) (hR : RowL bc w C O.length e O) (hO : O.length ≤ 1000) (hO2 : ∀ r ∈ O, r.length ≤ 1000) (s : Int) (he : whyO l O [s] = 0) :
    Calls Try.prog 23 #[lv l A c B d, .slice C O.length e, .int .i64 s] w fun en w' => ∃ A' c', en = .returned (.tuple #[.slice A' ((l.op O).part s).length c', .int .i64 0]) ∧ Row ic 1 w' A' ((l.op O).part s).length c' ((l.op O).part s) ∧ Below w.heap.size w w' := by
  obtain ⟨hok, hrw, hin⟩ := whyO_zero he
  obtain ⟨w0, hw0, X0, R0, B0⟩ := new3 w hr
  obtain ⟨w1, hw1⟩ : ∃ W, W = w0.alloc (.cells #[.int .i64 s] 3) := ⟨_, rfl⟩
  have hz0 : w0.heap.size = w.heap.size + 1 := by rw [hw0]; simp
  obtain ⟨n1, hn1⟩ : ∃ n, n = w.heap.size + 1 := ⟨_, rfl⟩
  have b1 : Below w0.heap.size w0 w1 := by rw [hw1]; exact (Below.refl _ _).alloc (Nat.le_refl _) _
  have B1 := Lib.hid (bt B0 b1)
  have X1 := Lib.hid (X0.below b1)
  have S1 : Row ic 1 w1 (some ⟨n1, 0, none⟩) 1 1 [s] := by rw [hw1, hn1, ← hz0]; exact row_one w0 [s] (by simp)
  have hck := Lib.hid (show Calls Try.prog 51 #[lv l A c B d, .slice C O.length e, .slice (some ⟨n1, 0, none⟩) 1 1] w1 _ from o_check17 (R0.below b1) hs ((hR.below B0).below b1) hO hO2 (ss := [s]) S1 (by simp) he)
  have hop := Lib.hid (fun W (hW : Below w1.heap.size w1 W) => o_opened ((R0.below b1).below hW) hs (((hR.below B0).below b1).below hW) hrw)
  have hpo := op_ok O hok
  have hps := op_small O hs
  have hpf := ok_fit hpo
  have hp0 := (hin s (by simp)).1
  have hp1 : s < (l.op O).segs := (hin s (by simp)).2
  have hwalk := Lib.hid (fun A' c' (I : List (Int × Int) → (Nat → Prop) → World → Prop) (g : Nat) (caps : Array Value) (W : World) (σ : Nat → Prop) t hr hI => o_walk (A := A') (c := c') (B := none) (d := 0) (w := W) (I := I) (g := g) (caps := caps) (σ := σ) t hr hps hpo hp0 hp1 hI)
  have hpart := Lib.hid (fun Q hn hQ => reach_part hpf hp0 hp1 (Q := Q) hn hQ)
  have hmem := Lib.hid (show s ∈ (l.op O).part s from part_self hp0 (by have := (ok_segs hpo).2.2; omega))
  have hpl := Lib.hid (show ((l.op O).part s).length ≤ 8 from Nat.le_trans (part_len _ _) (ok_small8 hpo))
  obtain ⟨m, hm⟩ : ∃ m, l.op O = m := ⟨_, rfl⟩
  rw [hm] at hop hwalk hpart hmem hpl ⊢
  replace hz0 := Lib.hid hz0
  replace hm := Lib.hid hm
  clear hr hs hR R0 X0 B0 b1 S1 hO hO2 he hok hrw hin hpo hps hpf hp0 hp1
  go_enter Try.func23, Try.ntmps23
  go_wp2_with fail
  rw [← hn1, ← hw0, ← hw1]
  clear hw0 hw1 hn1
  go_at_call 51
  (with_reducible refine hck.out.mono ?_)
  rintro e1 w2 ⟨rfl, hb2⟩
  obtain ⟨w3, hw3⟩ : ∃ W, W = w2.alloc (.cells #[.slice none 0 0] 43) := ⟨_, rfl⟩
  obtain ⟨r, hrr⟩ : ∃ r, r = w2.heap.size := ⟨_, rfl⟩
  have b3 : Below w2.heap.size w2 w3 := by rw [hw3]; exact (Below.refl _ _).alloc (Nat.le_refl _) _
  have X3 := Lib.hid ((X1.out.below hb2).below b3)
  have B3 := Lib.hid (bt (bt B1.out hb2) b3)
  have Y3 := Lib.hid (show Bx w3 r 43 #[.slice none 0 0] by rw [hw3]; exact Bx.new _ _ _ hrr.symm)
  have hop3 := Lib.hid (hop.out w3 (bt hb2 b3))
  have hrw3 := Lib.hid (show w.heap.size ≤ r ∧ r < w3.heap.size from ⟨by rw [hrr]; exact Nat.le_trans B1.out.size hb2.size, Y3.out.lt⟩)
  clear hb2 b3 hck X1 B1 hop
  go_upto_region 5 with fail
  rw [← hw3, ← hrr]
  clear hw3 hrr
  have x0 := X3.out.c (i := 0) rfl
  have x1 := X3.out.c (i := 1) rfl
  have x2 := X3.out.c (i := 2) rfl
  have zz := X3.out.lt
  go_wp2_with fail
  go_at_call 53
  (with_reducible refine hop3.out.mono ?_)
  rintro e1 w4 ⟨A4, c4, rfl, hL4, hb4⟩
  have B4 := Lib.hid (bt B3.out hb4)
  have Y4 := Lib.hid (Y3.out.below hb4)
  have hw4 := Lib.hid (hwalk.out A4 c4 (RT w.heap.size r) 54 #[.pointer (some ⟨r, 0, none⟩)] w4 (fun b => b = r) r_tel
    (fun W hW => hL4 W (hW.weak (fun b _ hb => by rw [hb]; exact hrw3.out.2)))
    ⟨B4.out.size, _, Y4.out, Own.nil _ _ _ _, fun b => by simp [Value.ownBlock], by simp [Value.ownBlock]⟩)
  have hcm := Lib.hid hb4.size
  clear hL4 hb4 x0 x1 x2 zz hop3 hwalk X3 Y3 Y4
  go_wp2_with fail
  go_at_call 52
  (with_reducible refine hw4.out.mono ?_)
  rintro e1 w5 ⟨rfl, Q, σ', hI, hnd, hQ, hσ', hst5⟩
  obtain ⟨_, v5, hI⟩ := hI
  have hQ2 : (Q.map fun x => (x, m.dst s x)).map Prod.fst = Q := by rw [List.map_map]; exact List.map_id Q
  have ho5 := hI.own
  rw [hQ2] at ho5
  have hb5 := hI.b
  have hn5 := hI.nr
  have hso := hpart.out Q hnd hQ
  obtain ⟨A5, c5, hv5⟩ := own_form ho5
  subst hv5
  have hQne : Q.map ic ≠ [] := by
    intro q
    have q2 := congrArg List.length q
    have hm2 := hmem.out
    rw [← hso] at hm2
    have := (List.mergeSort_perm Q (fun x y => decide (x ≤ y))).length_eq
    cases Q with
    | nil => simp at hm2
    | cons a Q => simp at q2
  obtain ⟨g, hg, hg0, hg1⟩ := own_ptr ho5 hQne
  subst hg
  have hH : Go.Sort.Holds (Value.int .i64) w5 g 0 Q.toArray := fun j hj => by
    have hj' : j < Q.length := by simpa using hj
    have e : Q.toArray[j]! = Q[j] := by rw [getElem!_pos Q.toArray j hj]; simp
    refine ⟨?_, (own_free ho5 _).1⟩
    have := own_cell ho5 (by decide) (j := j) (i := 0) (cs := ic Q[j]) (by rw [List.getElem?_map, List.getElem?_eq_getElem hj']; rfl) rfl
    rw [e]; simpa using this
  have hsort := Lib.hid (show Calls Try.prog 55 #[.slice (some ⟨g, 0, none⟩) Q.length c5] w5 _ from Any.slices_Sort_int Try.sortI g 0 c5 Q w5 hH hg1 (by have := hpl.out; rw [← hso, (List.mergeSort_perm Q _).length_eq] at this; omega))
  have hQlen := Lib.hid (show Q.length = (m.part s).length by rw [← hso, (List.mergeSort_perm Q _).length_eq])
  have hcap := (Row.own ho5 (by decide)).cap
  have hmx := (Row.own ho5 (by decide)).mx
  have O5 := Lib.hid ho5
  have Y5 := Lib.hid hb5
  have hne5 := Lib.hid hn5
  have hB5 := Lib.hid (show Below w.heap.size w w5 from B4.out.trans (hst5.below (fun b hb => by rw [hb]; exact hrw3.out.1) B4.out.size))
  have hgw := Lib.hid hg0
  have hg5 := Lib.hid hg1
  have hH5 := Lib.hid hH
  replace hso := Lib.hid hso
  have y0 := Y5.out.c (i := 0) rfl
  have yz := Y5.out.lt
  clear hI hQ2 ho5 hb5 hn5 hQne hg0 hg1 hH hst5 hσ' hnd hQ hw4 B4
  go_wp2_with fail
  go_at_call 55
  (with_reducible refine hsort.out.mono ?_)
  rintro e1 w6 ⟨rfl, n6, os6, hw6⟩
  rw [hso.out] at hw6
  have ho6 := own_sorted (n := n6) (os := os6) (S := m.part s) O5.out (by rw [hQlen.out])
  have hg6 : w5.grownBy w6 (some g) := by rw [hw6]; exact grownBy_sortedI _
  rw [← hw6] at ho6
  have R6 := Lib.hid (Row.own ho6 (by decide))
  have Y6 := Lib.hid (Y5.out.grown hg6 (fun q => hne5.out q.symm))
  have B6 := Lib.hid (hB5.out.grown hg6 hB5.out.size (fun k q => by have := Option.some.inj q; have := hgw.out; omega))
  clear hw6 ho6 hg6 y0 yz hsort
  have y0 := Y6.out.c (i := 0) rfl
  have yz := Y6.out.lt
  have hql := hQlen.out
  rw [hql] at y0 R6
  replace hql := Lib.hid hql
  go_wp2_with fail
  go_ret2
  exact ⟨some ⟨g, 0, none⟩, c5, rfl, R6.out, B6.out⟩
end Go.Proofs.Ytgcmklliafcffaa.LanP
