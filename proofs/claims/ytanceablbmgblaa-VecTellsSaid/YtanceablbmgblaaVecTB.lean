/-
  Walks of VecTells.
-/
import Derived.Test.YtanceablbmgblaaVecTA
namespace Go.Proofs.Ytanceablbmgblaa.VecP
open Go.RowKit Go.Sort Go.Proofs.Ytanceablbmgblaa.SliceP
set_option linter.unusedVariables false
set_option maxRecDepth 100000

set_option maxHeartbeats 8000000 in
theorem tells_n_bad (r c b p r2 c2 b2 p2 n : Int) (A : Option Addr) (n0 cap : Nat) (w : World) (ha : okV r c b p = false) (l : List V) (hl : l.length ≤ 60) (hlc : l.length ≤ cap) (hS : SlV w A l) (hok : l.all V.ok = false) (hfew : ∀ w, Calls Try.prog 7 #[.slice A n0 cap] w fun e w' => e = .returned (.slice A l.length cap) ∧ w = w') :
    Calls Try.prog 3 #[vv r c b p, vv r2 c2 b2 p2, .int .i64 n, .slice A n0 cap] w fun e w' => e = .returned (.bool true) ∧ Below w.heap.size w w' := by
  have HA := Lib.hid ha
  have HS := Lib.hid hS
  have HL := Lib.hid hok
  clear hS hok
  have HF := Lib.hid hfew
  clear hfew ha
  go_enter Try.func3, Try.ntmps3
  go_wp2_with fail
  go_at_call 7
  (with_reducible refine (HF.out _).mono ?_)
  rintro e w' ⟨rfl, rfl⟩
  obtain ⟨W0, hW0⟩ : ∃ W0, W0 = (w.alloc (.cells #[.int .i64 r, .int .i64 c, .int .i64 b, .int .i64 p] 23)).alloc (.cells #[.int .i64 r2, .int .i64 c2, .int .i64 b2, .int .i64 p2] 23) := ⟨_, rfl⟩
  have B0 : Below w.heap.size w W0 := by rw [hW0]; exact ((Below.refl _ _).alloc (Nat.le_refl _) _).alloc (by simp) _
  have za : w.heap.size < W0.heap.size := by rw [hW0]; simp; omega
  have zb : w.heap.size + 1 < W0.heap.size := by rw [hW0]; simp
  have a0 : W0.cell? ⟨w.heap.size, 0, none⟩ = some (.int .i64 r) := by rw [hW0]; go_simp
  have a1 : W0.cell? ⟨w.heap.size, 1, none⟩ = some (.int .i64 c) := by rw [hW0]; go_simp
  have a2 : W0.cell? ⟨w.heap.size, 2, none⟩ = some (.int .i64 b) := by rw [hW0]; go_simp
  have a3 : W0.cell? ⟨w.heap.size, 3, none⟩ = some (.int .i64 p) := by rw [hW0]; go_simp
  have e0 : W0.cell? ⟨w.heap.size + 1, 0, none⟩ = some (.int .i64 r2) := by rw [hW0]; go_simp
  have e1 : W0.cell? ⟨w.heap.size + 1, 1, none⟩ = some (.int .i64 c2) := by rw [hW0]; go_simp
  have e2 : W0.cell? ⟨w.heap.size + 1, 2, none⟩ = some (.int .i64 b2) := by rw [hW0]; go_simp
  have e3 : W0.cell? ⟨w.heap.size + 1, 3, none⟩ = some (.int .i64 p2) := by rw [hW0]; go_simp
  have HS0 := Lib.hid (HS.out.below B0)
  rw [← hW0]
  clear hW0 HS
  generalize w.heap.size + 1 = nb at *
  go_wp2_with fail
  go_at_call 8
  (with_reducible refine (better_bad1 _ _ _ _ _ _ _ _ _ HA.out).mono ?_)
  rintro e W1 ⟨rfl, hbW1⟩
  have a0_W1 : W1.cell? ⟨w.heap.size, 0, none⟩ = some (.int .i64 r) := (hbW1.cell (p := ⟨w.heap.size, _, none⟩) za).trans a0
  have a1_W1 : W1.cell? ⟨w.heap.size, 1, none⟩ = some (.int .i64 c) := (hbW1.cell (p := ⟨w.heap.size, _, none⟩) za).trans a1
  have a2_W1 : W1.cell? ⟨w.heap.size, 2, none⟩ = some (.int .i64 b) := (hbW1.cell (p := ⟨w.heap.size, _, none⟩) za).trans a2
  have a3_W1 : W1.cell? ⟨w.heap.size, 3, none⟩ = some (.int .i64 p) := (hbW1.cell (p := ⟨w.heap.size, _, none⟩) za).trans a3
  have e0_W1 : W1.cell? ⟨nb, 0, none⟩ = some (.int .i64 r2) := (hbW1.cell (p := ⟨nb, _, none⟩) zb).trans e0
  have e1_W1 : W1.cell? ⟨nb, 1, none⟩ = some (.int .i64 c2) := (hbW1.cell (p := ⟨nb, _, none⟩) zb).trans e1
  have e2_W1 : W1.cell? ⟨nb, 2, none⟩ = some (.int .i64 b2) := (hbW1.cell (p := ⟨nb, _, none⟩) zb).trans e2
  have e3_W1 : W1.cell? ⟨nb, 3, none⟩ = some (.int .i64 p2) := (hbW1.cell (p := ⟨nb, _, none⟩) zb).trans e3
  clear a0 a1 a2 a3 e0 e1 e2 e3
  have zW1_13 : w.heap.size < W1.heap.size := Nat.lt_of_lt_of_le za hbW1.size
  clear za
  have zW1_15 : nb < W1.heap.size := Nat.lt_of_lt_of_le zb hbW1.size
  clear zb
  have HS_W1 := Lib.hid (HS0.out.below hbW1)
  clear HS0
  have BW1 : Below w.heap.size w W1 := B0.trans (hbW1.mono B0.size)
  clear hbW1 B0
  go_wp2_with fail
  go_at_call 9
  (with_reducible refine (far_bad1 _ _ _ _ _ _ HA.out).mono ?_)
  rintro e W2 ⟨rfl, hbW2⟩
  have a0_W2 : W2.cell? ⟨w.heap.size, 0, none⟩ = some (.int .i64 r) := (hbW2.cell (p := ⟨w.heap.size, _, none⟩) zW1_13).trans a0_W1
  have a1_W2 : W2.cell? ⟨w.heap.size, 1, none⟩ = some (.int .i64 c) := (hbW2.cell (p := ⟨w.heap.size, _, none⟩) zW1_13).trans a1_W1
  have a2_W2 : W2.cell? ⟨w.heap.size, 2, none⟩ = some (.int .i64 b) := (hbW2.cell (p := ⟨w.heap.size, _, none⟩) zW1_13).trans a2_W1
  have a3_W2 : W2.cell? ⟨w.heap.size, 3, none⟩ = some (.int .i64 p) := (hbW2.cell (p := ⟨w.heap.size, _, none⟩) zW1_13).trans a3_W1
  have e0_W2 : W2.cell? ⟨nb, 0, none⟩ = some (.int .i64 r2) := (hbW2.cell (p := ⟨nb, _, none⟩) zW1_15).trans e0_W1
  have e1_W2 : W2.cell? ⟨nb, 1, none⟩ = some (.int .i64 c2) := (hbW2.cell (p := ⟨nb, _, none⟩) zW1_15).trans e1_W1
  have e2_W2 : W2.cell? ⟨nb, 2, none⟩ = some (.int .i64 b2) := (hbW2.cell (p := ⟨nb, _, none⟩) zW1_15).trans e2_W1
  have e3_W2 : W2.cell? ⟨nb, 3, none⟩ = some (.int .i64 p2) := (hbW2.cell (p := ⟨nb, _, none⟩) zW1_15).trans e3_W1
  clear a0_W1 a1_W1 a2_W1 a3_W1 e0_W1 e1_W1 e2_W1 e3_W1
  have zW2_34 : w.heap.size < W2.heap.size := Nat.lt_of_lt_of_le zW1_13 hbW2.size
  clear zW1_13
  have zW2_36 : nb < W2.heap.size := Nat.lt_of_lt_of_le zW1_15 hbW2.size
  clear zW1_15
  have HS_W2 := Lib.hid (HS_W1.out.below hbW2)
  clear HS_W1
  have BW2 : Below w.heap.size w W2 := BW1.trans (hbW2.mono BW1.size)
  clear hbW2 BW1
  go_wp2_with fail
  obtain ⟨W3, hW3⟩ : ∃ W3, W3 = W2.alloc (.cells #[.int .i64 0, .int .i64 0, .int .i64 0, .int .i64 0] 23) := ⟨_, rfl⟩
  have BW3 : Below w.heap.size w W3 := by rw [hW3]; exact BW2.alloc BW2.size _
  have a0_W3 : W3.cell? ⟨w.heap.size, 0, none⟩ = some (.int .i64 r) := by rw [hW3, World.cell?_alloc_lt _ _ _ (show w.heap.size < W2.heap.size from zW2_34)]; exact a0_W2
  have a1_W3 : W3.cell? ⟨w.heap.size, 1, none⟩ = some (.int .i64 c) := by rw [hW3, World.cell?_alloc_lt _ _ _ (show w.heap.size < W2.heap.size from zW2_34)]; exact a1_W2
  have a2_W3 : W3.cell? ⟨w.heap.size, 2, none⟩ = some (.int .i64 b) := by rw [hW3, World.cell?_alloc_lt _ _ _ (show w.heap.size < W2.heap.size from zW2_34)]; exact a2_W2
  have a3_W3 : W3.cell? ⟨w.heap.size, 3, none⟩ = some (.int .i64 p) := by rw [hW3, World.cell?_alloc_lt _ _ _ (show w.heap.size < W2.heap.size from zW2_34)]; exact a3_W2
  have e0_W3 : W3.cell? ⟨nb, 0, none⟩ = some (.int .i64 r2) := by rw [hW3, World.cell?_alloc_lt _ _ _ (show nb < W2.heap.size from zW2_36)]; exact e0_W2
  have e1_W3 : W3.cell? ⟨nb, 1, none⟩ = some (.int .i64 c2) := by rw [hW3, World.cell?_alloc_lt _ _ _ (show nb < W2.heap.size from zW2_36)]; exact e1_W2
  have e2_W3 : W3.cell? ⟨nb, 2, none⟩ = some (.int .i64 b2) := by rw [hW3, World.cell?_alloc_lt _ _ _ (show nb < W2.heap.size from zW2_36)]; exact e2_W2
  have e3_W3 : W3.cell? ⟨nb, 3, none⟩ = some (.int .i64 p2) := by rw [hW3, World.cell?_alloc_lt _ _ _ (show nb < W2.heap.size from zW2_36)]; exact e3_W2
  clear a0_W2 a1_W2 a2_W2 a3_W2 e0_W2 e1_W2 e2_W2 e3_W2
  have hzW3 : W3.heap.size = W2.heap.size + 1 := by rw [hW3]; simp
  have zW3_55 : w.heap.size < W3.heap.size := by rw [hzW3]; have := zW2_34; omega
  clear zW2_34
  have zW3_57 : nb < W3.heap.size := by rw [hzW3]; have := zW2_36; omega
  clear zW2_36
  have v0_W3 : W3.cell? ⟨W2.heap.size, 0, none⟩ = some (.int .i64 0) := by rw [hW3]; go_simp
  have v1_W3 : W3.cell? ⟨W2.heap.size, 1, none⟩ = some (.int .i64 0) := by rw [hW3]; go_simp
  have v2_W3 : W3.cell? ⟨W2.heap.size, 2, none⟩ = some (.int .i64 0) := by rw [hW3]; go_simp
  have v3_W3 : W3.cell? ⟨W2.heap.size, 3, none⟩ = some (.int .i64 0) := by rw [hW3]; go_simp
  have HS_W3 := Lib.hid (HS_W2.out.below (show Below W2.heap.size W2 W3 by rw [hW3]; exact (Below.refl _ _).alloc (Nat.le_refl _) _))
  clear HS_W2
  have znW3 : W2.heap.size < W3.heap.size := by rw [hzW3]; omega
  rw [← hW3]
  clear hW3 hzW3 BW2
  generalize W2.heap.size = nW3 at *
  go_at_call 10
  (with_reducible refine (best_bad _ _ _ _ (by omega) HS_W3.out HL.out).mono ?_)
  rintro e W4 ⟨rfl, hbW4⟩
  have a0_W4 : W4.cell? ⟨w.heap.size, 0, none⟩ = some (.int .i64 r) := (hbW4.cell (p := ⟨w.heap.size, _, none⟩) zW3_55).trans a0_W3
  have a1_W4 : W4.cell? ⟨w.heap.size, 1, none⟩ = some (.int .i64 c) := (hbW4.cell (p := ⟨w.heap.size, _, none⟩) zW3_55).trans a1_W3
  have a2_W4 : W4.cell? ⟨w.heap.size, 2, none⟩ = some (.int .i64 b) := (hbW4.cell (p := ⟨w.heap.size, _, none⟩) zW3_55).trans a2_W3
  have a3_W4 : W4.cell? ⟨w.heap.size, 3, none⟩ = some (.int .i64 p) := (hbW4.cell (p := ⟨w.heap.size, _, none⟩) zW3_55).trans a3_W3
  have e0_W4 : W4.cell? ⟨nb, 0, none⟩ = some (.int .i64 r2) := (hbW4.cell (p := ⟨nb, _, none⟩) zW3_57).trans e0_W3
  have e1_W4 : W4.cell? ⟨nb, 1, none⟩ = some (.int .i64 c2) := (hbW4.cell (p := ⟨nb, _, none⟩) zW3_57).trans e1_W3
  have e2_W4 : W4.cell? ⟨nb, 2, none⟩ = some (.int .i64 b2) := (hbW4.cell (p := ⟨nb, _, none⟩) zW3_57).trans e2_W3
  have e3_W4 : W4.cell? ⟨nb, 3, none⟩ = some (.int .i64 p2) := (hbW4.cell (p := ⟨nb, _, none⟩) zW3_57).trans e3_W3
  have v0_W4 : W4.cell? ⟨nW3, 0, none⟩ = some (.int .i64 0) := (hbW4.cell (p := ⟨nW3, _, none⟩) znW3).trans v0_W3
  have v1_W4 : W4.cell? ⟨nW3, 1, none⟩ = some (.int .i64 0) := (hbW4.cell (p := ⟨nW3, _, none⟩) znW3).trans v1_W3
  have v2_W4 : W4.cell? ⟨nW3, 2, none⟩ = some (.int .i64 0) := (hbW4.cell (p := ⟨nW3, _, none⟩) znW3).trans v2_W3
  have v3_W4 : W4.cell? ⟨nW3, 3, none⟩ = some (.int .i64 0) := (hbW4.cell (p := ⟨nW3, _, none⟩) znW3).trans v3_W3
  clear a0_W3 a1_W3 a2_W3 a3_W3 e0_W3 e1_W3 e2_W3 e3_W3 v0_W3 v1_W3 v2_W3 v3_W3
  have zW4_85 : w.heap.size < W4.heap.size := Nat.lt_of_lt_of_le zW3_55 hbW4.size
  clear zW3_55
  have zW4_87 : nb < W4.heap.size := Nat.lt_of_lt_of_le zW3_57 hbW4.size
  clear zW3_57
  have zW4_89 : nW3 < W4.heap.size := Nat.lt_of_lt_of_le znW3 hbW4.size
  clear znW3
  have HS_W4 := Lib.hid (HS_W3.out.below hbW4)
  clear HS_W3
  have BW4 : Below w.heap.size w W4 := BW3.trans (hbW4.mono BW3.size)
  clear hbW4 BW3
  go_wp2_with fail
  go_at_call 11
  (with_reducible refine (sort_bad _ _ _ _ (by omega) HS_W4.out HL.out).mono ?_)
  rintro e W5 ⟨rfl, hbW5⟩
  have a0_W5 : W5.cell? ⟨w.heap.size, 0, none⟩ = some (.int .i64 r) := (hbW5.cell (p := ⟨w.heap.size, _, none⟩) zW4_85).trans a0_W4
  have a1_W5 : W5.cell? ⟨w.heap.size, 1, none⟩ = some (.int .i64 c) := (hbW5.cell (p := ⟨w.heap.size, _, none⟩) zW4_85).trans a1_W4
  have a2_W5 : W5.cell? ⟨w.heap.size, 2, none⟩ = some (.int .i64 b) := (hbW5.cell (p := ⟨w.heap.size, _, none⟩) zW4_85).trans a2_W4
  have a3_W5 : W5.cell? ⟨w.heap.size, 3, none⟩ = some (.int .i64 p) := (hbW5.cell (p := ⟨w.heap.size, _, none⟩) zW4_85).trans a3_W4
  have e0_W5 : W5.cell? ⟨nb, 0, none⟩ = some (.int .i64 r2) := (hbW5.cell (p := ⟨nb, _, none⟩) zW4_87).trans e0_W4
  have e1_W5 : W5.cell? ⟨nb, 1, none⟩ = some (.int .i64 c2) := (hbW5.cell (p := ⟨nb, _, none⟩) zW4_87).trans e1_W4
  have e2_W5 : W5.cell? ⟨nb, 2, none⟩ = some (.int .i64 b2) := (hbW5.cell (p := ⟨nb, _, none⟩) zW4_87).trans e2_W4
  have e3_W5 : W5.cell? ⟨nb, 3, none⟩ = some (.int .i64 p2) := (hbW5.cell (p := ⟨nb, _, none⟩) zW4_87).trans e3_W4
  have v0_W5 : W5.cell? ⟨nW3, 0, none⟩ = some (.int .i64 0) := (hbW5.cell (p := ⟨nW3, _, none⟩) zW4_89).trans v0_W4
  have v1_W5 : W5.cell? ⟨nW3, 1, none⟩ = some (.int .i64 0) := (hbW5.cell (p := ⟨nW3, _, none⟩) zW4_89).trans v1_W4
  have v2_W5 : W5.cell? ⟨nW3, 2, none⟩ = some (.int .i64 0) := (hbW5.cell (p := ⟨nW3, _, none⟩) zW4_89).trans v2_W4
  have v3_W5 : W5.cell? ⟨nW3, 3, none⟩ = some (.int .i64 0) := (hbW5.cell (p := ⟨nW3, _, none⟩) zW4_89).trans v3_W4
  clear a0_W4 a1_W4 a2_W4 a3_W4 e0_W4 e1_W4 e2_W4 e3_W4 v0_W4 v1_W4 v2_W4 v3_W4
  have zW5_112 : w.heap.size < W5.heap.size := Nat.lt_of_lt_of_le zW4_85 hbW5.size
  clear zW4_85
  have zW5_114 : nb < W5.heap.size := Nat.lt_of_lt_of_le zW4_87 hbW5.size
  clear zW4_87
  have zW5_116 : nW3 < W5.heap.size := Nat.lt_of_lt_of_le zW4_89 hbW5.size
  clear zW4_89
  have HS_W5 := Lib.hid (HS_W4.out.below hbW5)
  clear HS_W4
  have BW5 : Below w.heap.size w W5 := BW4.trans (hbW5.mono BW4.size)
  clear hbW5 BW4
  go_wp2_with fail
  have K_a0 := cell_regrown a0_W5
  have K_a1 := cell_regrown a1_W5
  have K_a2 := cell_regrown a2_W5
  have K_a3 := cell_regrown a3_W5
  have K_e0 := cell_regrown e0_W5
  have K_e1 := cell_regrown e1_W5
  have K_e2 := cell_regrown e2_W5
  have K_e3 := cell_regrown e3_W5
  have K_v0 := cell_regrown v0_W5
  have K_v1 := cell_regrown v1_W5
  have K_v2 := cell_regrown v2_W5
  have K_v3 := cell_regrown v3_W5
  clear a0_W5 a1_W5 a2_W5 a3_W5 e0_W5 e1_W5 e2_W5 e3_W5 v0_W5 v1_W5 v2_W5 v3_W5
  have cC0 := fun (d : Nat) (os : Array Obj) => Calls.regrown_of (right_is r c b p _ HA.out (Go.Sort.grow (redrawn W5 d) os))
  have cC1 := fun (d : Nat) (os : Array Obj) => Calls.regrown_of (ref_right_is r c b p _ HA.out (Go.Sort.grow (redrawn W5 d) os))
  have cC2 := fun (d : Nat) (os : Array Obj) => Calls.regrown_of (alive_any (Go.Sort.grow (redrawn W5 d) os))
  refine wp_region_quiet_below (by kernel_rfl) (by kernel_rfl) ?_
  repeat (first | go_big_quiet_step (first | exact cC0 _ _ | exact cC1 _ _ | exact cC2 _ _) | quiet_step (first | exact cC0 _ _ | exact cC1 _ _ | exact cC2 _ _))
  refine wpQuiet_nil ?_
  intro _ hw'
  obtain ⟨⟨dq, osq⟩, hw''⟩ := hw'
  subst hw''
  have hbW6 := below_regrown W5 dq osq
  have a0_W6 := K_a0 dq osq
  have a1_W6 := K_a1 dq osq
  have a2_W6 := K_a2 dq osq
  have a3_W6 := K_a3 dq osq
  have e0_W6 := K_e0 dq osq
  have e1_W6 := K_e1 dq osq
  have e2_W6 := K_e2 dq osq
  have e3_W6 := K_e3 dq osq
  have v0_W6 := K_v0 dq osq
  have v1_W6 := K_v1 dq osq
  have v2_W6 := K_v2 dq osq
  have v3_W6 := K_v3 dq osq
  clear K_a0 K_a1 K_a2 K_a3 K_e0 K_e1 K_e2 K_e3 K_v0 K_v1 K_v2 K_v3 cC0 cC1 cC2 
  have zW6_159 : w.heap.size < (Go.Sort.grow (redrawn W5 dq) osq).heap.size := Nat.lt_of_lt_of_le zW5_112 hbW6.size
  clear zW5_112
  have zW6_161 : nb < (Go.Sort.grow (redrawn W5 dq) osq).heap.size := Nat.lt_of_lt_of_le zW5_114 hbW6.size
  clear zW5_114
  have zW6_163 : nW3 < (Go.Sort.grow (redrawn W5 dq) osq).heap.size := Nat.lt_of_lt_of_le zW5_116 hbW6.size
  clear zW5_116
  have HS_W6 := Lib.hid (HS_W5.out.below hbW6)
  clear HS_W5
  have BW6 : Below w.heap.size w (Go.Sort.grow (redrawn W5 dq) osq) := BW5.trans (hbW6.mono BW5.size)
  clear hbW6 BW5
  generalize Go.Sort.grow (redrawn W5 dq) osq = W6 at *
  go_wp2_with fail
  go_at_call 13
  (with_reducible refine (ref_right_is _ _ _ _ _ HA.out _).mono ?_)
  rintro e W7 ⟨rfl, hbW7⟩
  have a0_W7 : W7.cell? ⟨w.heap.size, 0, none⟩ = some (.int .i64 r) := (hbW7.cell (p := ⟨w.heap.size, _, none⟩) zW6_159).trans a0_W6
  have a1_W7 : W7.cell? ⟨w.heap.size, 1, none⟩ = some (.int .i64 c) := (hbW7.cell (p := ⟨w.heap.size, _, none⟩) zW6_159).trans a1_W6
  have a2_W7 : W7.cell? ⟨w.heap.size, 2, none⟩ = some (.int .i64 b) := (hbW7.cell (p := ⟨w.heap.size, _, none⟩) zW6_159).trans a2_W6
  have a3_W7 : W7.cell? ⟨w.heap.size, 3, none⟩ = some (.int .i64 p) := (hbW7.cell (p := ⟨w.heap.size, _, none⟩) zW6_159).trans a3_W6
  have e0_W7 : W7.cell? ⟨nb, 0, none⟩ = some (.int .i64 r2) := (hbW7.cell (p := ⟨nb, _, none⟩) zW6_161).trans e0_W6
  have e1_W7 : W7.cell? ⟨nb, 1, none⟩ = some (.int .i64 c2) := (hbW7.cell (p := ⟨nb, _, none⟩) zW6_161).trans e1_W6
  have e2_W7 : W7.cell? ⟨nb, 2, none⟩ = some (.int .i64 b2) := (hbW7.cell (p := ⟨nb, _, none⟩) zW6_161).trans e2_W6
  have e3_W7 : W7.cell? ⟨nb, 3, none⟩ = some (.int .i64 p2) := (hbW7.cell (p := ⟨nb, _, none⟩) zW6_161).trans e3_W6
  have v0_W7 : W7.cell? ⟨nW3, 0, none⟩ = some (.int .i64 0) := (hbW7.cell (p := ⟨nW3, _, none⟩) zW6_163).trans v0_W6
  have v1_W7 : W7.cell? ⟨nW3, 1, none⟩ = some (.int .i64 0) := (hbW7.cell (p := ⟨nW3, _, none⟩) zW6_163).trans v1_W6
  have v2_W7 : W7.cell? ⟨nW3, 2, none⟩ = some (.int .i64 0) := (hbW7.cell (p := ⟨nW3, _, none⟩) zW6_163).trans v2_W6
  have v3_W7 : W7.cell? ⟨nW3, 3, none⟩ = some (.int .i64 0) := (hbW7.cell (p := ⟨nW3, _, none⟩) zW6_163).trans v3_W6
  clear a0_W6 a1_W6 a2_W6 a3_W6 e0_W6 e1_W6 e2_W6 e3_W6 v0_W6 v1_W6 v2_W6 v3_W6
  have zW7_187 : w.heap.size < W7.heap.size := Nat.lt_of_lt_of_le zW6_159 hbW7.size
  clear zW6_159
  have zW7_189 : nb < W7.heap.size := Nat.lt_of_lt_of_le zW6_161 hbW7.size
  clear zW6_161
  have zW7_191 : nW3 < W7.heap.size := Nat.lt_of_lt_of_le zW6_163 hbW7.size
  clear zW6_163
  have HS_W7 := Lib.hid (HS_W6.out.below hbW7)
  clear HS_W6
  have BW7 : Below w.heap.size w W7 := BW6.trans (hbW7.mono BW6.size)
  clear hbW7 BW6
  go_wp2_with fail
  go_at_call 13
  (with_reducible refine (ref_right_is _ _ _ _ _ HA.out _).mono ?_)
  rintro e W8 ⟨rfl, hbW8⟩
  have a0_W8 : W8.cell? ⟨w.heap.size, 0, none⟩ = some (.int .i64 r) := (hbW8.cell (p := ⟨w.heap.size, _, none⟩) zW7_187).trans a0_W7
  have a1_W8 : W8.cell? ⟨w.heap.size, 1, none⟩ = some (.int .i64 c) := (hbW8.cell (p := ⟨w.heap.size, _, none⟩) zW7_187).trans a1_W7
  have a2_W8 : W8.cell? ⟨w.heap.size, 2, none⟩ = some (.int .i64 b) := (hbW8.cell (p := ⟨w.heap.size, _, none⟩) zW7_187).trans a2_W7
  have a3_W8 : W8.cell? ⟨w.heap.size, 3, none⟩ = some (.int .i64 p) := (hbW8.cell (p := ⟨w.heap.size, _, none⟩) zW7_187).trans a3_W7
  have e0_W8 : W8.cell? ⟨nb, 0, none⟩ = some (.int .i64 r2) := (hbW8.cell (p := ⟨nb, _, none⟩) zW7_189).trans e0_W7
  have e1_W8 : W8.cell? ⟨nb, 1, none⟩ = some (.int .i64 c2) := (hbW8.cell (p := ⟨nb, _, none⟩) zW7_189).trans e1_W7
  have e2_W8 : W8.cell? ⟨nb, 2, none⟩ = some (.int .i64 b2) := (hbW8.cell (p := ⟨nb, _, none⟩) zW7_189).trans e2_W7
  have e3_W8 : W8.cell? ⟨nb, 3, none⟩ = some (.int .i64 p2) := (hbW8.cell (p := ⟨nb, _, none⟩) zW7_189).trans e3_W7
  have v0_W8 : W8.cell? ⟨nW3, 0, none⟩ = some (.int .i64 0) := (hbW8.cell (p := ⟨nW3, _, none⟩) zW7_191).trans v0_W7
  have v1_W8 : W8.cell? ⟨nW3, 1, none⟩ = some (.int .i64 0) := (hbW8.cell (p := ⟨nW3, _, none⟩) zW7_191).trans v1_W7
  have v2_W8 : W8.cell? ⟨nW3, 2, none⟩ = some (.int .i64 0) := (hbW8.cell (p := ⟨nW3, _, none⟩) zW7_191).trans v2_W7
  have v3_W8 : W8.cell? ⟨nW3, 3, none⟩ = some (.int .i64 0) := (hbW8.cell (p := ⟨nW3, _, none⟩) zW7_191).trans v3_W7
  clear a0_W7 a1_W7 a2_W7 a3_W7 e0_W7 e1_W7 e2_W7 e3_W7 v0_W7 v1_W7 v2_W7 v3_W7
  have zW8_214 : w.heap.size < W8.heap.size := Nat.lt_of_lt_of_le zW7_187 hbW8.size
  clear zW7_187
  have zW8_216 : nb < W8.heap.size := Nat.lt_of_lt_of_le zW7_189 hbW8.size
  clear zW7_189
  have zW8_218 : nW3 < W8.heap.size := Nat.lt_of_lt_of_le zW7_191 hbW8.size
  clear zW7_191
  have HS_W8 := Lib.hid (HS_W7.out.below hbW8)
  clear HS_W7
  have BW8 : Below w.heap.size w W8 := BW7.trans (hbW8.mono BW7.size)
  clear hbW8 BW7
  go_wp2_with fail
  go_at_call 17
  (with_reducible refine (ref_all_is _ _ _ _ _ (by omega) HS_W8.out HL.out).mono ?_)
  rintro e W9 ⟨rfl, hbW9⟩
  have a0_W9 : W9.cell? ⟨w.heap.size, 0, none⟩ = some (.int .i64 r) := (hbW9.cell (p := ⟨w.heap.size, _, none⟩) zW8_214).trans a0_W8
  have a1_W9 : W9.cell? ⟨w.heap.size, 1, none⟩ = some (.int .i64 c) := (hbW9.cell (p := ⟨w.heap.size, _, none⟩) zW8_214).trans a1_W8
  have a2_W9 : W9.cell? ⟨w.heap.size, 2, none⟩ = some (.int .i64 b) := (hbW9.cell (p := ⟨w.heap.size, _, none⟩) zW8_214).trans a2_W8
  have a3_W9 : W9.cell? ⟨w.heap.size, 3, none⟩ = some (.int .i64 p) := (hbW9.cell (p := ⟨w.heap.size, _, none⟩) zW8_214).trans a3_W8
  have e0_W9 : W9.cell? ⟨nb, 0, none⟩ = some (.int .i64 r2) := (hbW9.cell (p := ⟨nb, _, none⟩) zW8_216).trans e0_W8
  have e1_W9 : W9.cell? ⟨nb, 1, none⟩ = some (.int .i64 c2) := (hbW9.cell (p := ⟨nb, _, none⟩) zW8_216).trans e1_W8
  have e2_W9 : W9.cell? ⟨nb, 2, none⟩ = some (.int .i64 b2) := (hbW9.cell (p := ⟨nb, _, none⟩) zW8_216).trans e2_W8
  have e3_W9 : W9.cell? ⟨nb, 3, none⟩ = some (.int .i64 p2) := (hbW9.cell (p := ⟨nb, _, none⟩) zW8_216).trans e3_W8
  have v0_W9 : W9.cell? ⟨nW3, 0, none⟩ = some (.int .i64 0) := (hbW9.cell (p := ⟨nW3, _, none⟩) zW8_218).trans v0_W8
  have v1_W9 : W9.cell? ⟨nW3, 1, none⟩ = some (.int .i64 0) := (hbW9.cell (p := ⟨nW3, _, none⟩) zW8_218).trans v1_W8
  have v2_W9 : W9.cell? ⟨nW3, 2, none⟩ = some (.int .i64 0) := (hbW9.cell (p := ⟨nW3, _, none⟩) zW8_218).trans v2_W8
  have v3_W9 : W9.cell? ⟨nW3, 3, none⟩ = some (.int .i64 0) := (hbW9.cell (p := ⟨nW3, _, none⟩) zW8_218).trans v3_W8
  clear a0_W8 a1_W8 a2_W8 a3_W8 e0_W8 e1_W8 e2_W8 e3_W8 v0_W8 v1_W8 v2_W8 v3_W8
  have zW9_241 : w.heap.size < W9.heap.size := Nat.lt_of_lt_of_le zW8_214 hbW9.size
  clear zW8_214
  have zW9_243 : nb < W9.heap.size := Nat.lt_of_lt_of_le zW8_216 hbW9.size
  clear zW8_216
  have zW9_245 : nW3 < W9.heap.size := Nat.lt_of_lt_of_le zW8_218 hbW9.size
  clear zW8_218
  have HS_W9 := Lib.hid (HS_W8.out.below hbW9)
  clear HS_W8
  have BW9 : Below w.heap.size w W9 := BW8.trans (hbW9.mono BW8.size)
  clear hbW9 BW8
  clear a0_W9
  clear a1_W9
  clear a2_W9
  clear a3_W9
  clear e0_W9
  clear e1_W9
  clear e2_W9
  clear e3_W9
  clear v0_W9
  clear v1_W9
  clear v2_W9
  clear v3_W9
  go_wp2_with fail
  go_ret
  exact ⟨rfl, BW9⟩

set_option maxHeartbeats 8000000 in
theorem tells_ynl_bad (r c b p r2 c2 b2 p2 n : Int) (A : Option Addr) (n0 cap : Nat) (w : World) (ha : okV r c b p = true) (hb : okV r2 c2 b2 p2 = false) (hn : n < 0) (l : List V) (hl : l.length ≤ 60) (hlc : l.length ≤ cap) (hS : SlV w A l) (hok : l.all V.ok = false) (hfew : ∀ w, Calls Try.prog 7 #[.slice A n0 cap] w fun e w' => e = .returned (.slice A l.length cap) ∧ w = w') :
    Calls Try.prog 3 #[vv r c b p, vv r2 c2 b2 p2, .int .i64 n, .slice A n0 cap] w fun e w' => e = .returned (.bool true) ∧ Below w.heap.size w w' := by
  have HA := Lib.hid ha
  have HB := Lib.hid hb
  have HC : Hid (inB n 2147483647 = false) := Lib.hid (by simp [inB]; omega)
  have HS := Lib.hid hS
  have HL := Lib.hid hok
  clear hS hok
  have HF := Lib.hid hfew
  clear hfew ha hb
  go_enter Try.func3, Try.ntmps3
  go_wp2_with fail
  go_at_call 7
  (with_reducible refine (HF.out _).mono ?_)
  rintro e w' ⟨rfl, rfl⟩
  obtain ⟨W0, hW0⟩ : ∃ W0, W0 = (w.alloc (.cells #[.int .i64 r, .int .i64 c, .int .i64 b, .int .i64 p] 23)).alloc (.cells #[.int .i64 r2, .int .i64 c2, .int .i64 b2, .int .i64 p2] 23) := ⟨_, rfl⟩
  have B0 : Below w.heap.size w W0 := by rw [hW0]; exact ((Below.refl _ _).alloc (Nat.le_refl _) _).alloc (by simp) _
  have za : w.heap.size < W0.heap.size := by rw [hW0]; simp; omega
  have zb : w.heap.size + 1 < W0.heap.size := by rw [hW0]; simp
  have a0 : W0.cell? ⟨w.heap.size, 0, none⟩ = some (.int .i64 r) := by rw [hW0]; go_simp
  have a1 : W0.cell? ⟨w.heap.size, 1, none⟩ = some (.int .i64 c) := by rw [hW0]; go_simp
  have a2 : W0.cell? ⟨w.heap.size, 2, none⟩ = some (.int .i64 b) := by rw [hW0]; go_simp
  have a3 : W0.cell? ⟨w.heap.size, 3, none⟩ = some (.int .i64 p) := by rw [hW0]; go_simp
  have e0 : W0.cell? ⟨w.heap.size + 1, 0, none⟩ = some (.int .i64 r2) := by rw [hW0]; go_simp
  have e1 : W0.cell? ⟨w.heap.size + 1, 1, none⟩ = some (.int .i64 c2) := by rw [hW0]; go_simp
  have e2 : W0.cell? ⟨w.heap.size + 1, 2, none⟩ = some (.int .i64 b2) := by rw [hW0]; go_simp
  have e3 : W0.cell? ⟨w.heap.size + 1, 3, none⟩ = some (.int .i64 p2) := by rw [hW0]; go_simp
  have HS0 := Lib.hid (HS.out.below B0)
  rw [← hW0]
  clear hW0 HS
  generalize w.heap.size + 1 = nb at *
  go_wp2_with fail
  go_at_call 8
  (with_reducible refine (better_bad _ _ _ _ _ _ _ _ _ (by rw [HB.out, Bool.and_false])).mono ?_)
  rintro e W1 ⟨rfl, hbW1⟩
  have a0_W1 : W1.cell? ⟨w.heap.size, 0, none⟩ = some (.int .i64 r) := (hbW1.cell (p := ⟨w.heap.size, _, none⟩) za).trans a0
  have a1_W1 : W1.cell? ⟨w.heap.size, 1, none⟩ = some (.int .i64 c) := (hbW1.cell (p := ⟨w.heap.size, _, none⟩) za).trans a1
  have a2_W1 : W1.cell? ⟨w.heap.size, 2, none⟩ = some (.int .i64 b) := (hbW1.cell (p := ⟨w.heap.size, _, none⟩) za).trans a2
  have a3_W1 : W1.cell? ⟨w.heap.size, 3, none⟩ = some (.int .i64 p) := (hbW1.cell (p := ⟨w.heap.size, _, none⟩) za).trans a3
  have e0_W1 : W1.cell? ⟨nb, 0, none⟩ = some (.int .i64 r2) := (hbW1.cell (p := ⟨nb, _, none⟩) zb).trans e0
  have e1_W1 : W1.cell? ⟨nb, 1, none⟩ = some (.int .i64 c2) := (hbW1.cell (p := ⟨nb, _, none⟩) zb).trans e1
  have e2_W1 : W1.cell? ⟨nb, 2, none⟩ = some (.int .i64 b2) := (hbW1.cell (p := ⟨nb, _, none⟩) zb).trans e2
  have e3_W1 : W1.cell? ⟨nb, 3, none⟩ = some (.int .i64 p2) := (hbW1.cell (p := ⟨nb, _, none⟩) zb).trans e3
  clear a0 a1 a2 a3 e0 e1 e2 e3
  have zW1_13 : w.heap.size < W1.heap.size := Nat.lt_of_lt_of_le za hbW1.size
  clear za
  have zW1_15 : nb < W1.heap.size := Nat.lt_of_lt_of_le zb hbW1.size
  clear zb
  have HS_W1 := Lib.hid (HS0.out.below hbW1)
  clear HS0
  have BW1 : Below w.heap.size w W1 := B0.trans (hbW1.mono B0.size)
  clear hbW1 B0
  go_wp2_with fail
  go_at_call 9
  (with_reducible refine (far_bad2 _ _ _ _ _ _ HA.out HC.out).mono ?_)
  rintro e W2 ⟨rfl, hbW2⟩
  have a0_W2 : W2.cell? ⟨w.heap.size, 0, none⟩ = some (.int .i64 r) := (hbW2.cell (p := ⟨w.heap.size, _, none⟩) zW1_13).trans a0_W1
  have a1_W2 : W2.cell? ⟨w.heap.size, 1, none⟩ = some (.int .i64 c) := (hbW2.cell (p := ⟨w.heap.size, _, none⟩) zW1_13).trans a1_W1
  have a2_W2 : W2.cell? ⟨w.heap.size, 2, none⟩ = some (.int .i64 b) := (hbW2.cell (p := ⟨w.heap.size, _, none⟩) zW1_13).trans a2_W1
  have a3_W2 : W2.cell? ⟨w.heap.size, 3, none⟩ = some (.int .i64 p) := (hbW2.cell (p := ⟨w.heap.size, _, none⟩) zW1_13).trans a3_W1
  have e0_W2 : W2.cell? ⟨nb, 0, none⟩ = some (.int .i64 r2) := (hbW2.cell (p := ⟨nb, _, none⟩) zW1_15).trans e0_W1
  have e1_W2 : W2.cell? ⟨nb, 1, none⟩ = some (.int .i64 c2) := (hbW2.cell (p := ⟨nb, _, none⟩) zW1_15).trans e1_W1
  have e2_W2 : W2.cell? ⟨nb, 2, none⟩ = some (.int .i64 b2) := (hbW2.cell (p := ⟨nb, _, none⟩) zW1_15).trans e2_W1
  have e3_W2 : W2.cell? ⟨nb, 3, none⟩ = some (.int .i64 p2) := (hbW2.cell (p := ⟨nb, _, none⟩) zW1_15).trans e3_W1
  clear a0_W1 a1_W1 a2_W1 a3_W1 e0_W1 e1_W1 e2_W1 e3_W1
  have zW2_34 : w.heap.size < W2.heap.size := Nat.lt_of_lt_of_le zW1_13 hbW2.size
  clear zW1_13
  have zW2_36 : nb < W2.heap.size := Nat.lt_of_lt_of_le zW1_15 hbW2.size
  clear zW1_15
  have HS_W2 := Lib.hid (HS_W1.out.below hbW2)
  clear HS_W1
  have BW2 : Below w.heap.size w W2 := BW1.trans (hbW2.mono BW1.size)
  clear hbW2 BW1
  go_wp2_with fail
  obtain ⟨W3, hW3⟩ : ∃ W3, W3 = W2.alloc (.cells #[.int .i64 0, .int .i64 0, .int .i64 0, .int .i64 0] 23) := ⟨_, rfl⟩
  have BW3 : Below w.heap.size w W3 := by rw [hW3]; exact BW2.alloc BW2.size _
  have a0_W3 : W3.cell? ⟨w.heap.size, 0, none⟩ = some (.int .i64 r) := by rw [hW3, World.cell?_alloc_lt _ _ _ (show w.heap.size < W2.heap.size from zW2_34)]; exact a0_W2
  have a1_W3 : W3.cell? ⟨w.heap.size, 1, none⟩ = some (.int .i64 c) := by rw [hW3, World.cell?_alloc_lt _ _ _ (show w.heap.size < W2.heap.size from zW2_34)]; exact a1_W2
  have a2_W3 : W3.cell? ⟨w.heap.size, 2, none⟩ = some (.int .i64 b) := by rw [hW3, World.cell?_alloc_lt _ _ _ (show w.heap.size < W2.heap.size from zW2_34)]; exact a2_W2
  have a3_W3 : W3.cell? ⟨w.heap.size, 3, none⟩ = some (.int .i64 p) := by rw [hW3, World.cell?_alloc_lt _ _ _ (show w.heap.size < W2.heap.size from zW2_34)]; exact a3_W2
  have e0_W3 : W3.cell? ⟨nb, 0, none⟩ = some (.int .i64 r2) := by rw [hW3, World.cell?_alloc_lt _ _ _ (show nb < W2.heap.size from zW2_36)]; exact e0_W2
  have e1_W3 : W3.cell? ⟨nb, 1, none⟩ = some (.int .i64 c2) := by rw [hW3, World.cell?_alloc_lt _ _ _ (show nb < W2.heap.size from zW2_36)]; exact e1_W2
  have e2_W3 : W3.cell? ⟨nb, 2, none⟩ = some (.int .i64 b2) := by rw [hW3, World.cell?_alloc_lt _ _ _ (show nb < W2.heap.size from zW2_36)]; exact e2_W2
  have e3_W3 : W3.cell? ⟨nb, 3, none⟩ = some (.int .i64 p2) := by rw [hW3, World.cell?_alloc_lt _ _ _ (show nb < W2.heap.size from zW2_36)]; exact e3_W2
  clear a0_W2 a1_W2 a2_W2 a3_W2 e0_W2 e1_W2 e2_W2 e3_W2
  have hzW3 : W3.heap.size = W2.heap.size + 1 := by rw [hW3]; simp
  have zW3_55 : w.heap.size < W3.heap.size := by rw [hzW3]; have := zW2_34; omega
  clear zW2_34
  have zW3_57 : nb < W3.heap.size := by rw [hzW3]; have := zW2_36; omega
  clear zW2_36
  have v0_W3 : W3.cell? ⟨W2.heap.size, 0, none⟩ = some (.int .i64 0) := by rw [hW3]; go_simp
  have v1_W3 : W3.cell? ⟨W2.heap.size, 1, none⟩ = some (.int .i64 0) := by rw [hW3]; go_simp
  have v2_W3 : W3.cell? ⟨W2.heap.size, 2, none⟩ = some (.int .i64 0) := by rw [hW3]; go_simp
  have v3_W3 : W3.cell? ⟨W2.heap.size, 3, none⟩ = some (.int .i64 0) := by rw [hW3]; go_simp
  have HS_W3 := Lib.hid (HS_W2.out.below (show Below W2.heap.size W2 W3 by rw [hW3]; exact (Below.refl _ _).alloc (Nat.le_refl _) _))
  clear HS_W2
  have znW3 : W2.heap.size < W3.heap.size := by rw [hzW3]; omega
  rw [← hW3]
  clear hW3 hzW3 BW2
  generalize W2.heap.size = nW3 at *
  go_at_call 10
  (with_reducible refine (best_bad _ _ _ _ (by omega) HS_W3.out HL.out).mono ?_)
  rintro e W4 ⟨rfl, hbW4⟩
  have a0_W4 : W4.cell? ⟨w.heap.size, 0, none⟩ = some (.int .i64 r) := (hbW4.cell (p := ⟨w.heap.size, _, none⟩) zW3_55).trans a0_W3
  have a1_W4 : W4.cell? ⟨w.heap.size, 1, none⟩ = some (.int .i64 c) := (hbW4.cell (p := ⟨w.heap.size, _, none⟩) zW3_55).trans a1_W3
  have a2_W4 : W4.cell? ⟨w.heap.size, 2, none⟩ = some (.int .i64 b) := (hbW4.cell (p := ⟨w.heap.size, _, none⟩) zW3_55).trans a2_W3
  have a3_W4 : W4.cell? ⟨w.heap.size, 3, none⟩ = some (.int .i64 p) := (hbW4.cell (p := ⟨w.heap.size, _, none⟩) zW3_55).trans a3_W3
  have e0_W4 : W4.cell? ⟨nb, 0, none⟩ = some (.int .i64 r2) := (hbW4.cell (p := ⟨nb, _, none⟩) zW3_57).trans e0_W3
  have e1_W4 : W4.cell? ⟨nb, 1, none⟩ = some (.int .i64 c2) := (hbW4.cell (p := ⟨nb, _, none⟩) zW3_57).trans e1_W3
  have e2_W4 : W4.cell? ⟨nb, 2, none⟩ = some (.int .i64 b2) := (hbW4.cell (p := ⟨nb, _, none⟩) zW3_57).trans e2_W3
  have e3_W4 : W4.cell? ⟨nb, 3, none⟩ = some (.int .i64 p2) := (hbW4.cell (p := ⟨nb, _, none⟩) zW3_57).trans e3_W3
  have v0_W4 : W4.cell? ⟨nW3, 0, none⟩ = some (.int .i64 0) := (hbW4.cell (p := ⟨nW3, _, none⟩) znW3).trans v0_W3
  have v1_W4 : W4.cell? ⟨nW3, 1, none⟩ = some (.int .i64 0) := (hbW4.cell (p := ⟨nW3, _, none⟩) znW3).trans v1_W3
  have v2_W4 : W4.cell? ⟨nW3, 2, none⟩ = some (.int .i64 0) := (hbW4.cell (p := ⟨nW3, _, none⟩) znW3).trans v2_W3
  have v3_W4 : W4.cell? ⟨nW3, 3, none⟩ = some (.int .i64 0) := (hbW4.cell (p := ⟨nW3, _, none⟩) znW3).trans v3_W3
  clear a0_W3 a1_W3 a2_W3 a3_W3 e0_W3 e1_W3 e2_W3 e3_W3 v0_W3 v1_W3 v2_W3 v3_W3
  have zW4_85 : w.heap.size < W4.heap.size := Nat.lt_of_lt_of_le zW3_55 hbW4.size
  clear zW3_55
  have zW4_87 : nb < W4.heap.size := Nat.lt_of_lt_of_le zW3_57 hbW4.size
  clear zW3_57
  have zW4_89 : nW3 < W4.heap.size := Nat.lt_of_lt_of_le znW3 hbW4.size
  clear znW3
  have HS_W4 := Lib.hid (HS_W3.out.below hbW4)
  clear HS_W3
  have BW4 : Below w.heap.size w W4 := BW3.trans (hbW4.mono BW3.size)
  clear hbW4 BW3
  go_wp2_with fail
  go_at_call 11
  (with_reducible refine (sort_bad _ _ _ _ (by omega) HS_W4.out HL.out).mono ?_)
  rintro e W5 ⟨rfl, hbW5⟩
  have a0_W5 : W5.cell? ⟨w.heap.size, 0, none⟩ = some (.int .i64 r) := (hbW5.cell (p := ⟨w.heap.size, _, none⟩) zW4_85).trans a0_W4
  have a1_W5 : W5.cell? ⟨w.heap.size, 1, none⟩ = some (.int .i64 c) := (hbW5.cell (p := ⟨w.heap.size, _, none⟩) zW4_85).trans a1_W4
  have a2_W5 : W5.cell? ⟨w.heap.size, 2, none⟩ = some (.int .i64 b) := (hbW5.cell (p := ⟨w.heap.size, _, none⟩) zW4_85).trans a2_W4
  have a3_W5 : W5.cell? ⟨w.heap.size, 3, none⟩ = some (.int .i64 p) := (hbW5.cell (p := ⟨w.heap.size, _, none⟩) zW4_85).trans a3_W4
  have e0_W5 : W5.cell? ⟨nb, 0, none⟩ = some (.int .i64 r2) := (hbW5.cell (p := ⟨nb, _, none⟩) zW4_87).trans e0_W4
  have e1_W5 : W5.cell? ⟨nb, 1, none⟩ = some (.int .i64 c2) := (hbW5.cell (p := ⟨nb, _, none⟩) zW4_87).trans e1_W4
  have e2_W5 : W5.cell? ⟨nb, 2, none⟩ = some (.int .i64 b2) := (hbW5.cell (p := ⟨nb, _, none⟩) zW4_87).trans e2_W4
  have e3_W5 : W5.cell? ⟨nb, 3, none⟩ = some (.int .i64 p2) := (hbW5.cell (p := ⟨nb, _, none⟩) zW4_87).trans e3_W4
  have v0_W5 : W5.cell? ⟨nW3, 0, none⟩ = some (.int .i64 0) := (hbW5.cell (p := ⟨nW3, _, none⟩) zW4_89).trans v0_W4
  have v1_W5 : W5.cell? ⟨nW3, 1, none⟩ = some (.int .i64 0) := (hbW5.cell (p := ⟨nW3, _, none⟩) zW4_89).trans v1_W4
  have v2_W5 : W5.cell? ⟨nW3, 2, none⟩ = some (.int .i64 0) := (hbW5.cell (p := ⟨nW3, _, none⟩) zW4_89).trans v2_W4
  have v3_W5 : W5.cell? ⟨nW3, 3, none⟩ = some (.int .i64 0) := (hbW5.cell (p := ⟨nW3, _, none⟩) zW4_89).trans v3_W4
  clear a0_W4 a1_W4 a2_W4 a3_W4 e0_W4 e1_W4 e2_W4 e3_W4 v0_W4 v1_W4 v2_W4 v3_W4
  have zW5_112 : w.heap.size < W5.heap.size := Nat.lt_of_lt_of_le zW4_85 hbW5.size
  clear zW4_85
  have zW5_114 : nb < W5.heap.size := Nat.lt_of_lt_of_le zW4_87 hbW5.size
  clear zW4_87
  have zW5_116 : nW3 < W5.heap.size := Nat.lt_of_lt_of_le zW4_89 hbW5.size
  clear zW4_89
  have HS_W5 := Lib.hid (HS_W4.out.below hbW5)
  clear HS_W4
  have BW5 : Below w.heap.size w W5 := BW4.trans (hbW5.mono BW4.size)
  clear hbW5 BW4
  go_wp2_with fail
  have K_a0 := cell_regrown a0_W5
  have K_a1 := cell_regrown a1_W5
  have K_a2 := cell_regrown a2_W5
  have K_a3 := cell_regrown a3_W5
  have K_e0 := cell_regrown e0_W5
  have K_e1 := cell_regrown e1_W5
  have K_e2 := cell_regrown e2_W5
  have K_e3 := cell_regrown e3_W5
  have K_v0 := cell_regrown v0_W5
  have K_v1 := cell_regrown v1_W5
  have K_v2 := cell_regrown v2_W5
  have K_v3 := cell_regrown v3_W5
  clear a0_W5 a1_W5 a2_W5 a3_W5 e0_W5 e1_W5 e2_W5 e3_W5 v0_W5 v1_W5 v2_W5 v3_W5
  have cC0 := fun (d : Nat) (os : Array Obj) => Calls.regrown_of (right_is r c b p _ HA.out (Go.Sort.grow (redrawn W5 d) os))
  have cC1 := fun (d : Nat) (os : Array Obj) => Calls.regrown_of (ref_right_is r c b p _ HA.out (Go.Sort.grow (redrawn W5 d) os))
  have cC2 := fun (d : Nat) (os : Array Obj) => Calls.regrown_of (alive_any (Go.Sort.grow (redrawn W5 d) os))
  refine wp_region_quiet_below (by kernel_rfl) (by kernel_rfl) ?_
  repeat (first | go_big_quiet_step (first | exact cC0 _ _ | exact cC1 _ _ | exact cC2 _ _) | quiet_step (first | exact cC0 _ _ | exact cC1 _ _ | exact cC2 _ _))
  refine wpQuiet_nil ?_
  intro _ hw'
  obtain ⟨⟨dq, osq⟩, hw''⟩ := hw'
  subst hw''
  have hbW6 := below_regrown W5 dq osq
  have a0_W6 := K_a0 dq osq
  have a1_W6 := K_a1 dq osq
  have a2_W6 := K_a2 dq osq
  have a3_W6 := K_a3 dq osq
  have e0_W6 := K_e0 dq osq
  have e1_W6 := K_e1 dq osq
  have e2_W6 := K_e2 dq osq
  have e3_W6 := K_e3 dq osq
  have v0_W6 := K_v0 dq osq
  have v1_W6 := K_v1 dq osq
  have v2_W6 := K_v2 dq osq
  have v3_W6 := K_v3 dq osq
  clear K_a0 K_a1 K_a2 K_a3 K_e0 K_e1 K_e2 K_e3 K_v0 K_v1 K_v2 K_v3 cC0 cC1 cC2 
  have zW6_159 : w.heap.size < (Go.Sort.grow (redrawn W5 dq) osq).heap.size := Nat.lt_of_lt_of_le zW5_112 hbW6.size
  clear zW5_112
  have zW6_161 : nb < (Go.Sort.grow (redrawn W5 dq) osq).heap.size := Nat.lt_of_lt_of_le zW5_114 hbW6.size
  clear zW5_114
  have zW6_163 : nW3 < (Go.Sort.grow (redrawn W5 dq) osq).heap.size := Nat.lt_of_lt_of_le zW5_116 hbW6.size
  clear zW5_116
  have HS_W6 := Lib.hid (HS_W5.out.below hbW6)
  clear HS_W5
  have BW6 : Below w.heap.size w (Go.Sort.grow (redrawn W5 dq) osq) := BW5.trans (hbW6.mono BW5.size)
  clear hbW6 BW5
  generalize Go.Sort.grow (redrawn W5 dq) osq = W6 at *
  go_wp2_with fail
  go_at_call 13
  (with_reducible refine (ref_right_is _ _ _ _ _ HA.out _).mono ?_)
  rintro e W7 ⟨rfl, hbW7⟩
  have a0_W7 : W7.cell? ⟨w.heap.size, 0, none⟩ = some (.int .i64 r) := (hbW7.cell (p := ⟨w.heap.size, _, none⟩) zW6_159).trans a0_W6
  have a1_W7 : W7.cell? ⟨w.heap.size, 1, none⟩ = some (.int .i64 c) := (hbW7.cell (p := ⟨w.heap.size, _, none⟩) zW6_159).trans a1_W6
  have a2_W7 : W7.cell? ⟨w.heap.size, 2, none⟩ = some (.int .i64 b) := (hbW7.cell (p := ⟨w.heap.size, _, none⟩) zW6_159).trans a2_W6
  have a3_W7 : W7.cell? ⟨w.heap.size, 3, none⟩ = some (.int .i64 p) := (hbW7.cell (p := ⟨w.heap.size, _, none⟩) zW6_159).trans a3_W6
  have e0_W7 : W7.cell? ⟨nb, 0, none⟩ = some (.int .i64 r2) := (hbW7.cell (p := ⟨nb, _, none⟩) zW6_161).trans e0_W6
  have e1_W7 : W7.cell? ⟨nb, 1, none⟩ = some (.int .i64 c2) := (hbW7.cell (p := ⟨nb, _, none⟩) zW6_161).trans e1_W6
  have e2_W7 : W7.cell? ⟨nb, 2, none⟩ = some (.int .i64 b2) := (hbW7.cell (p := ⟨nb, _, none⟩) zW6_161).trans e2_W6
  have e3_W7 : W7.cell? ⟨nb, 3, none⟩ = some (.int .i64 p2) := (hbW7.cell (p := ⟨nb, _, none⟩) zW6_161).trans e3_W6
  have v0_W7 : W7.cell? ⟨nW3, 0, none⟩ = some (.int .i64 0) := (hbW7.cell (p := ⟨nW3, _, none⟩) zW6_163).trans v0_W6
  have v1_W7 : W7.cell? ⟨nW3, 1, none⟩ = some (.int .i64 0) := (hbW7.cell (p := ⟨nW3, _, none⟩) zW6_163).trans v1_W6
  have v2_W7 : W7.cell? ⟨nW3, 2, none⟩ = some (.int .i64 0) := (hbW7.cell (p := ⟨nW3, _, none⟩) zW6_163).trans v2_W6
  have v3_W7 : W7.cell? ⟨nW3, 3, none⟩ = some (.int .i64 0) := (hbW7.cell (p := ⟨nW3, _, none⟩) zW6_163).trans v3_W6
  clear a0_W6 a1_W6 a2_W6 a3_W6 e0_W6 e1_W6 e2_W6 e3_W6 v0_W6 v1_W6 v2_W6 v3_W6
  have zW7_187 : w.heap.size < W7.heap.size := Nat.lt_of_lt_of_le zW6_159 hbW7.size
  clear zW6_159
  have zW7_189 : nb < W7.heap.size := Nat.lt_of_lt_of_le zW6_161 hbW7.size
  clear zW6_161
  have zW7_191 : nW3 < W7.heap.size := Nat.lt_of_lt_of_le zW6_163 hbW7.size
  clear zW6_163
  have HS_W7 := Lib.hid (HS_W6.out.below hbW7)
  clear HS_W6
  have BW7 : Below w.heap.size w W7 := BW6.trans (hbW7.mono BW6.size)
  clear hbW7 BW6
  go_wp2_with fail
  go_at_call 13
  (with_reducible refine (ref_right_is _ _ _ _ _ HB.out _).mono ?_)
  rintro e W8 ⟨rfl, hbW8⟩
  have a0_W8 : W8.cell? ⟨w.heap.size, 0, none⟩ = some (.int .i64 r) := (hbW8.cell (p := ⟨w.heap.size, _, none⟩) zW7_187).trans a0_W7
  have a1_W8 : W8.cell? ⟨w.heap.size, 1, none⟩ = some (.int .i64 c) := (hbW8.cell (p := ⟨w.heap.size, _, none⟩) zW7_187).trans a1_W7
  have a2_W8 : W8.cell? ⟨w.heap.size, 2, none⟩ = some (.int .i64 b) := (hbW8.cell (p := ⟨w.heap.size, _, none⟩) zW7_187).trans a2_W7
  have a3_W8 : W8.cell? ⟨w.heap.size, 3, none⟩ = some (.int .i64 p) := (hbW8.cell (p := ⟨w.heap.size, _, none⟩) zW7_187).trans a3_W7
  have e0_W8 : W8.cell? ⟨nb, 0, none⟩ = some (.int .i64 r2) := (hbW8.cell (p := ⟨nb, _, none⟩) zW7_189).trans e0_W7
  have e1_W8 : W8.cell? ⟨nb, 1, none⟩ = some (.int .i64 c2) := (hbW8.cell (p := ⟨nb, _, none⟩) zW7_189).trans e1_W7
  have e2_W8 : W8.cell? ⟨nb, 2, none⟩ = some (.int .i64 b2) := (hbW8.cell (p := ⟨nb, _, none⟩) zW7_189).trans e2_W7
  have e3_W8 : W8.cell? ⟨nb, 3, none⟩ = some (.int .i64 p2) := (hbW8.cell (p := ⟨nb, _, none⟩) zW7_189).trans e3_W7
  have v0_W8 : W8.cell? ⟨nW3, 0, none⟩ = some (.int .i64 0) := (hbW8.cell (p := ⟨nW3, _, none⟩) zW7_191).trans v0_W7
  have v1_W8 : W8.cell? ⟨nW3, 1, none⟩ = some (.int .i64 0) := (hbW8.cell (p := ⟨nW3, _, none⟩) zW7_191).trans v1_W7
  have v2_W8 : W8.cell? ⟨nW3, 2, none⟩ = some (.int .i64 0) := (hbW8.cell (p := ⟨nW3, _, none⟩) zW7_191).trans v2_W7
  have v3_W8 : W8.cell? ⟨nW3, 3, none⟩ = some (.int .i64 0) := (hbW8.cell (p := ⟨nW3, _, none⟩) zW7_191).trans v3_W7
  clear a0_W7 a1_W7 a2_W7 a3_W7 e0_W7 e1_W7 e2_W7 e3_W7 v0_W7 v1_W7 v2_W7 v3_W7
  have zW8_214 : w.heap.size < W8.heap.size := Nat.lt_of_lt_of_le zW7_187 hbW8.size
  clear zW7_187
  have zW8_216 : nb < W8.heap.size := Nat.lt_of_lt_of_le zW7_189 hbW8.size
  clear zW7_189
  have zW8_218 : nW3 < W8.heap.size := Nat.lt_of_lt_of_le zW7_191 hbW8.size
  clear zW7_191
  have HS_W8 := Lib.hid (HS_W7.out.below hbW8)
  clear HS_W7
  have BW8 : Below w.heap.size w W8 := BW7.trans (hbW8.mono BW7.size)
  clear hbW8 BW7
  go_wp2_with fail
  go_at_call 13
  (with_reducible refine (ref_right_is _ _ _ _ _ HA.out _).mono ?_)
  rintro e W9 ⟨rfl, hbW9⟩
  have a0_W9 : W9.cell? ⟨w.heap.size, 0, none⟩ = some (.int .i64 r) := (hbW9.cell (p := ⟨w.heap.size, _, none⟩) zW8_214).trans a0_W8
  have a1_W9 : W9.cell? ⟨w.heap.size, 1, none⟩ = some (.int .i64 c) := (hbW9.cell (p := ⟨w.heap.size, _, none⟩) zW8_214).trans a1_W8
  have a2_W9 : W9.cell? ⟨w.heap.size, 2, none⟩ = some (.int .i64 b) := (hbW9.cell (p := ⟨w.heap.size, _, none⟩) zW8_214).trans a2_W8
  have a3_W9 : W9.cell? ⟨w.heap.size, 3, none⟩ = some (.int .i64 p) := (hbW9.cell (p := ⟨w.heap.size, _, none⟩) zW8_214).trans a3_W8
  have e0_W9 : W9.cell? ⟨nb, 0, none⟩ = some (.int .i64 r2) := (hbW9.cell (p := ⟨nb, _, none⟩) zW8_216).trans e0_W8
  have e1_W9 : W9.cell? ⟨nb, 1, none⟩ = some (.int .i64 c2) := (hbW9.cell (p := ⟨nb, _, none⟩) zW8_216).trans e1_W8
  have e2_W9 : W9.cell? ⟨nb, 2, none⟩ = some (.int .i64 b2) := (hbW9.cell (p := ⟨nb, _, none⟩) zW8_216).trans e2_W8
  have e3_W9 : W9.cell? ⟨nb, 3, none⟩ = some (.int .i64 p2) := (hbW9.cell (p := ⟨nb, _, none⟩) zW8_216).trans e3_W8
  have v0_W9 : W9.cell? ⟨nW3, 0, none⟩ = some (.int .i64 0) := (hbW9.cell (p := ⟨nW3, _, none⟩) zW8_218).trans v0_W8
  have v1_W9 : W9.cell? ⟨nW3, 1, none⟩ = some (.int .i64 0) := (hbW9.cell (p := ⟨nW3, _, none⟩) zW8_218).trans v1_W8
  have v2_W9 : W9.cell? ⟨nW3, 2, none⟩ = some (.int .i64 0) := (hbW9.cell (p := ⟨nW3, _, none⟩) zW8_218).trans v2_W8
  have v3_W9 : W9.cell? ⟨nW3, 3, none⟩ = some (.int .i64 0) := (hbW9.cell (p := ⟨nW3, _, none⟩) zW8_218).trans v3_W8
  clear a0_W8 a1_W8 a2_W8 a3_W8 e0_W8 e1_W8 e2_W8 e3_W8 v0_W8 v1_W8 v2_W8 v3_W8
  have zW9_241 : w.heap.size < W9.heap.size := Nat.lt_of_lt_of_le zW8_214 hbW9.size
  clear zW8_214
  have zW9_243 : nb < W9.heap.size := Nat.lt_of_lt_of_le zW8_216 hbW9.size
  clear zW8_216
  have zW9_245 : nW3 < W9.heap.size := Nat.lt_of_lt_of_le zW8_218 hbW9.size
  clear zW8_218
  have HS_W9 := Lib.hid (HS_W8.out.below hbW9)
  clear HS_W8
  have BW9 : Below w.heap.size w W9 := BW8.trans (hbW9.mono BW8.size)
  clear hbW9 BW8
  go_wp2_with fail
  go_at_call 17
  (with_reducible refine (ref_all_is _ _ _ _ _ (by omega) HS_W9.out HL.out).mono ?_)
  rintro e W10 ⟨rfl, hbW10⟩
  have a0_W10 : W10.cell? ⟨w.heap.size, 0, none⟩ = some (.int .i64 r) := (hbW10.cell (p := ⟨w.heap.size, _, none⟩) zW9_241).trans a0_W9
  have a1_W10 : W10.cell? ⟨w.heap.size, 1, none⟩ = some (.int .i64 c) := (hbW10.cell (p := ⟨w.heap.size, _, none⟩) zW9_241).trans a1_W9
  have a2_W10 : W10.cell? ⟨w.heap.size, 2, none⟩ = some (.int .i64 b) := (hbW10.cell (p := ⟨w.heap.size, _, none⟩) zW9_241).trans a2_W9
  have a3_W10 : W10.cell? ⟨w.heap.size, 3, none⟩ = some (.int .i64 p) := (hbW10.cell (p := ⟨w.heap.size, _, none⟩) zW9_241).trans a3_W9
  have e0_W10 : W10.cell? ⟨nb, 0, none⟩ = some (.int .i64 r2) := (hbW10.cell (p := ⟨nb, _, none⟩) zW9_243).trans e0_W9
  have e1_W10 : W10.cell? ⟨nb, 1, none⟩ = some (.int .i64 c2) := (hbW10.cell (p := ⟨nb, _, none⟩) zW9_243).trans e1_W9
  have e2_W10 : W10.cell? ⟨nb, 2, none⟩ = some (.int .i64 b2) := (hbW10.cell (p := ⟨nb, _, none⟩) zW9_243).trans e2_W9
  have e3_W10 : W10.cell? ⟨nb, 3, none⟩ = some (.int .i64 p2) := (hbW10.cell (p := ⟨nb, _, none⟩) zW9_243).trans e3_W9
  have v0_W10 : W10.cell? ⟨nW3, 0, none⟩ = some (.int .i64 0) := (hbW10.cell (p := ⟨nW3, _, none⟩) zW9_245).trans v0_W9
  have v1_W10 : W10.cell? ⟨nW3, 1, none⟩ = some (.int .i64 0) := (hbW10.cell (p := ⟨nW3, _, none⟩) zW9_245).trans v1_W9
  have v2_W10 : W10.cell? ⟨nW3, 2, none⟩ = some (.int .i64 0) := (hbW10.cell (p := ⟨nW3, _, none⟩) zW9_245).trans v2_W9
  have v3_W10 : W10.cell? ⟨nW3, 3, none⟩ = some (.int .i64 0) := (hbW10.cell (p := ⟨nW3, _, none⟩) zW9_245).trans v3_W9
  clear a0_W9 a1_W9 a2_W9 a3_W9 e0_W9 e1_W9 e2_W9 e3_W9 v0_W9 v1_W9 v2_W9 v3_W9
  have zW10_268 : w.heap.size < W10.heap.size := Nat.lt_of_lt_of_le zW9_241 hbW10.size
  clear zW9_241
  have zW10_270 : nb < W10.heap.size := Nat.lt_of_lt_of_le zW9_243 hbW10.size
  clear zW9_243
  have zW10_272 : nW3 < W10.heap.size := Nat.lt_of_lt_of_le zW9_245 hbW10.size
  clear zW9_245
  have HS_W10 := Lib.hid (HS_W9.out.below hbW10)
  clear HS_W9
  have BW10 : Below w.heap.size w W10 := BW9.trans (hbW10.mono BW9.size)
  clear hbW10 BW9
  clear a0_W10
  clear a1_W10
  clear a2_W10
  clear a3_W10
  clear e0_W10
  clear e1_W10
  clear e2_W10
  clear e3_W10
  clear v0_W10
  clear v1_W10
  clear v2_W10
  clear v3_W10
  go_wp2_with fail
  go_ret
  exact ⟨rfl, BW10⟩

set_option maxHeartbeats 8000000 in
theorem tells_ynh_bad (r c b p r2 c2 b2 p2 n : Int) (A : Option Addr) (n0 cap : Nat) (w : World) (ha : okV r c b p = true) (hb : okV r2 c2 b2 p2 = false) (hn0 : 0 ≤ n) (hn : 2147483647 < n) (l : List V) (hl : l.length ≤ 60) (hlc : l.length ≤ cap) (hS : SlV w A l) (hok : l.all V.ok = false) (hfew : ∀ w, Calls Try.prog 7 #[.slice A n0 cap] w fun e w' => e = .returned (.slice A l.length cap) ∧ w = w') :
    Calls Try.prog 3 #[vv r c b p, vv r2 c2 b2 p2, .int .i64 n, .slice A n0 cap] w fun e w' => e = .returned (.bool true) ∧ Below w.heap.size w w' := by
  have HA := Lib.hid ha
  have HB := Lib.hid hb
  have HC : Hid (inB n 2147483647 = false) := Lib.hid (by simp [inB]; omega)
  have HS := Lib.hid hS
  have HL := Lib.hid hok
  clear hS hok
  have HF := Lib.hid hfew
  clear hfew ha hb
  go_enter Try.func3, Try.ntmps3
  go_wp2_with fail
  go_at_call 7
  (with_reducible refine (HF.out _).mono ?_)
  rintro e w' ⟨rfl, rfl⟩
  obtain ⟨W0, hW0⟩ : ∃ W0, W0 = (w.alloc (.cells #[.int .i64 r, .int .i64 c, .int .i64 b, .int .i64 p] 23)).alloc (.cells #[.int .i64 r2, .int .i64 c2, .int .i64 b2, .int .i64 p2] 23) := ⟨_, rfl⟩
  have B0 : Below w.heap.size w W0 := by rw [hW0]; exact ((Below.refl _ _).alloc (Nat.le_refl _) _).alloc (by simp) _
  have za : w.heap.size < W0.heap.size := by rw [hW0]; simp; omega
  have zb : w.heap.size + 1 < W0.heap.size := by rw [hW0]; simp
  have a0 : W0.cell? ⟨w.heap.size, 0, none⟩ = some (.int .i64 r) := by rw [hW0]; go_simp
  have a1 : W0.cell? ⟨w.heap.size, 1, none⟩ = some (.int .i64 c) := by rw [hW0]; go_simp
  have a2 : W0.cell? ⟨w.heap.size, 2, none⟩ = some (.int .i64 b) := by rw [hW0]; go_simp
  have a3 : W0.cell? ⟨w.heap.size, 3, none⟩ = some (.int .i64 p) := by rw [hW0]; go_simp
  have e0 : W0.cell? ⟨w.heap.size + 1, 0, none⟩ = some (.int .i64 r2) := by rw [hW0]; go_simp
  have e1 : W0.cell? ⟨w.heap.size + 1, 1, none⟩ = some (.int .i64 c2) := by rw [hW0]; go_simp
  have e2 : W0.cell? ⟨w.heap.size + 1, 2, none⟩ = some (.int .i64 b2) := by rw [hW0]; go_simp
  have e3 : W0.cell? ⟨w.heap.size + 1, 3, none⟩ = some (.int .i64 p2) := by rw [hW0]; go_simp
  have HS0 := Lib.hid (HS.out.below B0)
  rw [← hW0]
  clear hW0 HS
  generalize w.heap.size + 1 = nb at *
  go_wp2_with fail
  go_at_call 8
  (with_reducible refine (better_bad _ _ _ _ _ _ _ _ _ (by rw [HB.out, Bool.and_false])).mono ?_)
  rintro e W1 ⟨rfl, hbW1⟩
  have a0_W1 : W1.cell? ⟨w.heap.size, 0, none⟩ = some (.int .i64 r) := (hbW1.cell (p := ⟨w.heap.size, _, none⟩) za).trans a0
  have a1_W1 : W1.cell? ⟨w.heap.size, 1, none⟩ = some (.int .i64 c) := (hbW1.cell (p := ⟨w.heap.size, _, none⟩) za).trans a1
  have a2_W1 : W1.cell? ⟨w.heap.size, 2, none⟩ = some (.int .i64 b) := (hbW1.cell (p := ⟨w.heap.size, _, none⟩) za).trans a2
  have a3_W1 : W1.cell? ⟨w.heap.size, 3, none⟩ = some (.int .i64 p) := (hbW1.cell (p := ⟨w.heap.size, _, none⟩) za).trans a3
  have e0_W1 : W1.cell? ⟨nb, 0, none⟩ = some (.int .i64 r2) := (hbW1.cell (p := ⟨nb, _, none⟩) zb).trans e0
  have e1_W1 : W1.cell? ⟨nb, 1, none⟩ = some (.int .i64 c2) := (hbW1.cell (p := ⟨nb, _, none⟩) zb).trans e1
  have e2_W1 : W1.cell? ⟨nb, 2, none⟩ = some (.int .i64 b2) := (hbW1.cell (p := ⟨nb, _, none⟩) zb).trans e2
  have e3_W1 : W1.cell? ⟨nb, 3, none⟩ = some (.int .i64 p2) := (hbW1.cell (p := ⟨nb, _, none⟩) zb).trans e3
  clear a0 a1 a2 a3 e0 e1 e2 e3
  have zW1_13 : w.heap.size < W1.heap.size := Nat.lt_of_lt_of_le za hbW1.size
  clear za
  have zW1_15 : nb < W1.heap.size := Nat.lt_of_lt_of_le zb hbW1.size
  clear zb
  have HS_W1 := Lib.hid (HS0.out.below hbW1)
  clear HS0
  have BW1 : Below w.heap.size w W1 := B0.trans (hbW1.mono B0.size)
  clear hbW1 B0
  go_wp2_with fail
  go_at_call 9
  (with_reducible refine (far_bad2 _ _ _ _ _ _ HA.out HC.out).mono ?_)
  rintro e W2 ⟨rfl, hbW2⟩
  have a0_W2 : W2.cell? ⟨w.heap.size, 0, none⟩ = some (.int .i64 r) := (hbW2.cell (p := ⟨w.heap.size, _, none⟩) zW1_13).trans a0_W1
  have a1_W2 : W2.cell? ⟨w.heap.size, 1, none⟩ = some (.int .i64 c) := (hbW2.cell (p := ⟨w.heap.size, _, none⟩) zW1_13).trans a1_W1
  have a2_W2 : W2.cell? ⟨w.heap.size, 2, none⟩ = some (.int .i64 b) := (hbW2.cell (p := ⟨w.heap.size, _, none⟩) zW1_13).trans a2_W1
  have a3_W2 : W2.cell? ⟨w.heap.size, 3, none⟩ = some (.int .i64 p) := (hbW2.cell (p := ⟨w.heap.size, _, none⟩) zW1_13).trans a3_W1
  have e0_W2 : W2.cell? ⟨nb, 0, none⟩ = some (.int .i64 r2) := (hbW2.cell (p := ⟨nb, _, none⟩) zW1_15).trans e0_W1
  have e1_W2 : W2.cell? ⟨nb, 1, none⟩ = some (.int .i64 c2) := (hbW2.cell (p := ⟨nb, _, none⟩) zW1_15).trans e1_W1
  have e2_W2 : W2.cell? ⟨nb, 2, none⟩ = some (.int .i64 b2) := (hbW2.cell (p := ⟨nb, _, none⟩) zW1_15).trans e2_W1
  have e3_W2 : W2.cell? ⟨nb, 3, none⟩ = some (.int .i64 p2) := (hbW2.cell (p := ⟨nb, _, none⟩) zW1_15).trans e3_W1
  clear a0_W1 a1_W1 a2_W1 a3_W1 e0_W1 e1_W1 e2_W1 e3_W1
  have zW2_34 : w.heap.size < W2.heap.size := Nat.lt_of_lt_of_le zW1_13 hbW2.size
  clear zW1_13
  have zW2_36 : nb < W2.heap.size := Nat.lt_of_lt_of_le zW1_15 hbW2.size
  clear zW1_15
  have HS_W2 := Lib.hid (HS_W1.out.below hbW2)
  clear HS_W1
  have BW2 : Below w.heap.size w W2 := BW1.trans (hbW2.mono BW1.size)
  clear hbW2 BW1
  go_wp2_with fail
  obtain ⟨W3, hW3⟩ : ∃ W3, W3 = W2.alloc (.cells #[.int .i64 0, .int .i64 0, .int .i64 0, .int .i64 0] 23) := ⟨_, rfl⟩
  have BW3 : Below w.heap.size w W3 := by rw [hW3]; exact BW2.alloc BW2.size _
  have a0_W3 : W3.cell? ⟨w.heap.size, 0, none⟩ = some (.int .i64 r) := by rw [hW3, World.cell?_alloc_lt _ _ _ (show w.heap.size < W2.heap.size from zW2_34)]; exact a0_W2
  have a1_W3 : W3.cell? ⟨w.heap.size, 1, none⟩ = some (.int .i64 c) := by rw [hW3, World.cell?_alloc_lt _ _ _ (show w.heap.size < W2.heap.size from zW2_34)]; exact a1_W2
  have a2_W3 : W3.cell? ⟨w.heap.size, 2, none⟩ = some (.int .i64 b) := by rw [hW3, World.cell?_alloc_lt _ _ _ (show w.heap.size < W2.heap.size from zW2_34)]; exact a2_W2
  have a3_W3 : W3.cell? ⟨w.heap.size, 3, none⟩ = some (.int .i64 p) := by rw [hW3, World.cell?_alloc_lt _ _ _ (show w.heap.size < W2.heap.size from zW2_34)]; exact a3_W2
  have e0_W3 : W3.cell? ⟨nb, 0, none⟩ = some (.int .i64 r2) := by rw [hW3, World.cell?_alloc_lt _ _ _ (show nb < W2.heap.size from zW2_36)]; exact e0_W2
  have e1_W3 : W3.cell? ⟨nb, 1, none⟩ = some (.int .i64 c2) := by rw [hW3, World.cell?_alloc_lt _ _ _ (show nb < W2.heap.size from zW2_36)]; exact e1_W2
  have e2_W3 : W3.cell? ⟨nb, 2, none⟩ = some (.int .i64 b2) := by rw [hW3, World.cell?_alloc_lt _ _ _ (show nb < W2.heap.size from zW2_36)]; exact e2_W2
  have e3_W3 : W3.cell? ⟨nb, 3, none⟩ = some (.int .i64 p2) := by rw [hW3, World.cell?_alloc_lt _ _ _ (show nb < W2.heap.size from zW2_36)]; exact e3_W2
  clear a0_W2 a1_W2 a2_W2 a3_W2 e0_W2 e1_W2 e2_W2 e3_W2
  have hzW3 : W3.heap.size = W2.heap.size + 1 := by rw [hW3]; simp
  have zW3_55 : w.heap.size < W3.heap.size := by rw [hzW3]; have := zW2_34; omega
  clear zW2_34
  have zW3_57 : nb < W3.heap.size := by rw [hzW3]; have := zW2_36; omega
  clear zW2_36
  have v0_W3 : W3.cell? ⟨W2.heap.size, 0, none⟩ = some (.int .i64 0) := by rw [hW3]; go_simp
  have v1_W3 : W3.cell? ⟨W2.heap.size, 1, none⟩ = some (.int .i64 0) := by rw [hW3]; go_simp
  have v2_W3 : W3.cell? ⟨W2.heap.size, 2, none⟩ = some (.int .i64 0) := by rw [hW3]; go_simp
  have v3_W3 : W3.cell? ⟨W2.heap.size, 3, none⟩ = some (.int .i64 0) := by rw [hW3]; go_simp
  have HS_W3 := Lib.hid (HS_W2.out.below (show Below W2.heap.size W2 W3 by rw [hW3]; exact (Below.refl _ _).alloc (Nat.le_refl _) _))
  clear HS_W2
  have znW3 : W2.heap.size < W3.heap.size := by rw [hzW3]; omega
  rw [← hW3]
  clear hW3 hzW3 BW2
  generalize W2.heap.size = nW3 at *
  go_at_call 10
  (with_reducible refine (best_bad _ _ _ _ (by omega) HS_W3.out HL.out).mono ?_)
  rintro e W4 ⟨rfl, hbW4⟩
  have a0_W4 : W4.cell? ⟨w.heap.size, 0, none⟩ = some (.int .i64 r) := (hbW4.cell (p := ⟨w.heap.size, _, none⟩) zW3_55).trans a0_W3
  have a1_W4 : W4.cell? ⟨w.heap.size, 1, none⟩ = some (.int .i64 c) := (hbW4.cell (p := ⟨w.heap.size, _, none⟩) zW3_55).trans a1_W3
  have a2_W4 : W4.cell? ⟨w.heap.size, 2, none⟩ = some (.int .i64 b) := (hbW4.cell (p := ⟨w.heap.size, _, none⟩) zW3_55).trans a2_W3
  have a3_W4 : W4.cell? ⟨w.heap.size, 3, none⟩ = some (.int .i64 p) := (hbW4.cell (p := ⟨w.heap.size, _, none⟩) zW3_55).trans a3_W3
  have e0_W4 : W4.cell? ⟨nb, 0, none⟩ = some (.int .i64 r2) := (hbW4.cell (p := ⟨nb, _, none⟩) zW3_57).trans e0_W3
  have e1_W4 : W4.cell? ⟨nb, 1, none⟩ = some (.int .i64 c2) := (hbW4.cell (p := ⟨nb, _, none⟩) zW3_57).trans e1_W3
  have e2_W4 : W4.cell? ⟨nb, 2, none⟩ = some (.int .i64 b2) := (hbW4.cell (p := ⟨nb, _, none⟩) zW3_57).trans e2_W3
  have e3_W4 : W4.cell? ⟨nb, 3, none⟩ = some (.int .i64 p2) := (hbW4.cell (p := ⟨nb, _, none⟩) zW3_57).trans e3_W3
  have v0_W4 : W4.cell? ⟨nW3, 0, none⟩ = some (.int .i64 0) := (hbW4.cell (p := ⟨nW3, _, none⟩) znW3).trans v0_W3
  have v1_W4 : W4.cell? ⟨nW3, 1, none⟩ = some (.int .i64 0) := (hbW4.cell (p := ⟨nW3, _, none⟩) znW3).trans v1_W3
  have v2_W4 : W4.cell? ⟨nW3, 2, none⟩ = some (.int .i64 0) := (hbW4.cell (p := ⟨nW3, _, none⟩) znW3).trans v2_W3
  have v3_W4 : W4.cell? ⟨nW3, 3, none⟩ = some (.int .i64 0) := (hbW4.cell (p := ⟨nW3, _, none⟩) znW3).trans v3_W3
  clear a0_W3 a1_W3 a2_W3 a3_W3 e0_W3 e1_W3 e2_W3 e3_W3 v0_W3 v1_W3 v2_W3 v3_W3
  have zW4_85 : w.heap.size < W4.heap.size := Nat.lt_of_lt_of_le zW3_55 hbW4.size
  clear zW3_55
  have zW4_87 : nb < W4.heap.size := Nat.lt_of_lt_of_le zW3_57 hbW4.size
  clear zW3_57
  have zW4_89 : nW3 < W4.heap.size := Nat.lt_of_lt_of_le znW3 hbW4.size
  clear znW3
  have HS_W4 := Lib.hid (HS_W3.out.below hbW4)
  clear HS_W3
  have BW4 : Below w.heap.size w W4 := BW3.trans (hbW4.mono BW3.size)
  clear hbW4 BW3
  go_wp2_with fail
  go_at_call 11
  (with_reducible refine (sort_bad _ _ _ _ (by omega) HS_W4.out HL.out).mono ?_)
  rintro e W5 ⟨rfl, hbW5⟩
  have a0_W5 : W5.cell? ⟨w.heap.size, 0, none⟩ = some (.int .i64 r) := (hbW5.cell (p := ⟨w.heap.size, _, none⟩) zW4_85).trans a0_W4
  have a1_W5 : W5.cell? ⟨w.heap.size, 1, none⟩ = some (.int .i64 c) := (hbW5.cell (p := ⟨w.heap.size, _, none⟩) zW4_85).trans a1_W4
  have a2_W5 : W5.cell? ⟨w.heap.size, 2, none⟩ = some (.int .i64 b) := (hbW5.cell (p := ⟨w.heap.size, _, none⟩) zW4_85).trans a2_W4
  have a3_W5 : W5.cell? ⟨w.heap.size, 3, none⟩ = some (.int .i64 p) := (hbW5.cell (p := ⟨w.heap.size, _, none⟩) zW4_85).trans a3_W4
  have e0_W5 : W5.cell? ⟨nb, 0, none⟩ = some (.int .i64 r2) := (hbW5.cell (p := ⟨nb, _, none⟩) zW4_87).trans e0_W4
  have e1_W5 : W5.cell? ⟨nb, 1, none⟩ = some (.int .i64 c2) := (hbW5.cell (p := ⟨nb, _, none⟩) zW4_87).trans e1_W4
  have e2_W5 : W5.cell? ⟨nb, 2, none⟩ = some (.int .i64 b2) := (hbW5.cell (p := ⟨nb, _, none⟩) zW4_87).trans e2_W4
  have e3_W5 : W5.cell? ⟨nb, 3, none⟩ = some (.int .i64 p2) := (hbW5.cell (p := ⟨nb, _, none⟩) zW4_87).trans e3_W4
  have v0_W5 : W5.cell? ⟨nW3, 0, none⟩ = some (.int .i64 0) := (hbW5.cell (p := ⟨nW3, _, none⟩) zW4_89).trans v0_W4
  have v1_W5 : W5.cell? ⟨nW3, 1, none⟩ = some (.int .i64 0) := (hbW5.cell (p := ⟨nW3, _, none⟩) zW4_89).trans v1_W4
  have v2_W5 : W5.cell? ⟨nW3, 2, none⟩ = some (.int .i64 0) := (hbW5.cell (p := ⟨nW3, _, none⟩) zW4_89).trans v2_W4
  have v3_W5 : W5.cell? ⟨nW3, 3, none⟩ = some (.int .i64 0) := (hbW5.cell (p := ⟨nW3, _, none⟩) zW4_89).trans v3_W4
  clear a0_W4 a1_W4 a2_W4 a3_W4 e0_W4 e1_W4 e2_W4 e3_W4 v0_W4 v1_W4 v2_W4 v3_W4
  have zW5_112 : w.heap.size < W5.heap.size := Nat.lt_of_lt_of_le zW4_85 hbW5.size
  clear zW4_85
  have zW5_114 : nb < W5.heap.size := Nat.lt_of_lt_of_le zW4_87 hbW5.size
  clear zW4_87
  have zW5_116 : nW3 < W5.heap.size := Nat.lt_of_lt_of_le zW4_89 hbW5.size
  clear zW4_89
  have HS_W5 := Lib.hid (HS_W4.out.below hbW5)
  clear HS_W4
  have BW5 : Below w.heap.size w W5 := BW4.trans (hbW5.mono BW4.size)
  clear hbW5 BW4
  go_wp2_with fail
  have K_a0 := cell_regrown a0_W5
  have K_a1 := cell_regrown a1_W5
  have K_a2 := cell_regrown a2_W5
  have K_a3 := cell_regrown a3_W5
  have K_e0 := cell_regrown e0_W5
  have K_e1 := cell_regrown e1_W5
  have K_e2 := cell_regrown e2_W5
  have K_e3 := cell_regrown e3_W5
  have K_v0 := cell_regrown v0_W5
  have K_v1 := cell_regrown v1_W5
  have K_v2 := cell_regrown v2_W5
  have K_v3 := cell_regrown v3_W5
  clear a0_W5 a1_W5 a2_W5 a3_W5 e0_W5 e1_W5 e2_W5 e3_W5 v0_W5 v1_W5 v2_W5 v3_W5
  have cC0 := fun (d : Nat) (os : Array Obj) => Calls.regrown_of (right_is r c b p _ HA.out (Go.Sort.grow (redrawn W5 d) os))
  have cC1 := fun (d : Nat) (os : Array Obj) => Calls.regrown_of (ref_right_is r c b p _ HA.out (Go.Sort.grow (redrawn W5 d) os))
  have cC2 := fun (d : Nat) (os : Array Obj) => Calls.regrown_of (alive_any (Go.Sort.grow (redrawn W5 d) os))
  refine wp_region_quiet_below (by kernel_rfl) (by kernel_rfl) ?_
  repeat (first | go_big_quiet_step (first | exact cC0 _ _ | exact cC1 _ _ | exact cC2 _ _) | quiet_step (first | exact cC0 _ _ | exact cC1 _ _ | exact cC2 _ _))
  refine wpQuiet_nil ?_
  intro _ hw'
  obtain ⟨⟨dq, osq⟩, hw''⟩ := hw'
  subst hw''
  have hbW6 := below_regrown W5 dq osq
  have a0_W6 := K_a0 dq osq
  have a1_W6 := K_a1 dq osq
  have a2_W6 := K_a2 dq osq
  have a3_W6 := K_a3 dq osq
  have e0_W6 := K_e0 dq osq
  have e1_W6 := K_e1 dq osq
  have e2_W6 := K_e2 dq osq
  have e3_W6 := K_e3 dq osq
  have v0_W6 := K_v0 dq osq
  have v1_W6 := K_v1 dq osq
  have v2_W6 := K_v2 dq osq
  have v3_W6 := K_v3 dq osq
  clear K_a0 K_a1 K_a2 K_a3 K_e0 K_e1 K_e2 K_e3 K_v0 K_v1 K_v2 K_v3 cC0 cC1 cC2 
  have zW6_159 : w.heap.size < (Go.Sort.grow (redrawn W5 dq) osq).heap.size := Nat.lt_of_lt_of_le zW5_112 hbW6.size
  clear zW5_112
  have zW6_161 : nb < (Go.Sort.grow (redrawn W5 dq) osq).heap.size := Nat.lt_of_lt_of_le zW5_114 hbW6.size
  clear zW5_114
  have zW6_163 : nW3 < (Go.Sort.grow (redrawn W5 dq) osq).heap.size := Nat.lt_of_lt_of_le zW5_116 hbW6.size
  clear zW5_116
  have HS_W6 := Lib.hid (HS_W5.out.below hbW6)
  clear HS_W5
  have BW6 : Below w.heap.size w (Go.Sort.grow (redrawn W5 dq) osq) := BW5.trans (hbW6.mono BW5.size)
  clear hbW6 BW5
  generalize Go.Sort.grow (redrawn W5 dq) osq = W6 at *
  go_wp2_with fail
  go_at_call 13
  (with_reducible refine (ref_right_is _ _ _ _ _ HA.out _).mono ?_)
  rintro e W7 ⟨rfl, hbW7⟩
  have a0_W7 : W7.cell? ⟨w.heap.size, 0, none⟩ = some (.int .i64 r) := (hbW7.cell (p := ⟨w.heap.size, _, none⟩) zW6_159).trans a0_W6
  have a1_W7 : W7.cell? ⟨w.heap.size, 1, none⟩ = some (.int .i64 c) := (hbW7.cell (p := ⟨w.heap.size, _, none⟩) zW6_159).trans a1_W6
  have a2_W7 : W7.cell? ⟨w.heap.size, 2, none⟩ = some (.int .i64 b) := (hbW7.cell (p := ⟨w.heap.size, _, none⟩) zW6_159).trans a2_W6
  have a3_W7 : W7.cell? ⟨w.heap.size, 3, none⟩ = some (.int .i64 p) := (hbW7.cell (p := ⟨w.heap.size, _, none⟩) zW6_159).trans a3_W6
  have e0_W7 : W7.cell? ⟨nb, 0, none⟩ = some (.int .i64 r2) := (hbW7.cell (p := ⟨nb, _, none⟩) zW6_161).trans e0_W6
  have e1_W7 : W7.cell? ⟨nb, 1, none⟩ = some (.int .i64 c2) := (hbW7.cell (p := ⟨nb, _, none⟩) zW6_161).trans e1_W6
  have e2_W7 : W7.cell? ⟨nb, 2, none⟩ = some (.int .i64 b2) := (hbW7.cell (p := ⟨nb, _, none⟩) zW6_161).trans e2_W6
  have e3_W7 : W7.cell? ⟨nb, 3, none⟩ = some (.int .i64 p2) := (hbW7.cell (p := ⟨nb, _, none⟩) zW6_161).trans e3_W6
  have v0_W7 : W7.cell? ⟨nW3, 0, none⟩ = some (.int .i64 0) := (hbW7.cell (p := ⟨nW3, _, none⟩) zW6_163).trans v0_W6
  have v1_W7 : W7.cell? ⟨nW3, 1, none⟩ = some (.int .i64 0) := (hbW7.cell (p := ⟨nW3, _, none⟩) zW6_163).trans v1_W6
  have v2_W7 : W7.cell? ⟨nW3, 2, none⟩ = some (.int .i64 0) := (hbW7.cell (p := ⟨nW3, _, none⟩) zW6_163).trans v2_W6
  have v3_W7 : W7.cell? ⟨nW3, 3, none⟩ = some (.int .i64 0) := (hbW7.cell (p := ⟨nW3, _, none⟩) zW6_163).trans v3_W6
  clear a0_W6 a1_W6 a2_W6 a3_W6 e0_W6 e1_W6 e2_W6 e3_W6 v0_W6 v1_W6 v2_W6 v3_W6
  have zW7_187 : w.heap.size < W7.heap.size := Nat.lt_of_lt_of_le zW6_159 hbW7.size
  clear zW6_159
  have zW7_189 : nb < W7.heap.size := Nat.lt_of_lt_of_le zW6_161 hbW7.size
  clear zW6_161
  have zW7_191 : nW3 < W7.heap.size := Nat.lt_of_lt_of_le zW6_163 hbW7.size
  clear zW6_163
  have HS_W7 := Lib.hid (HS_W6.out.below hbW7)
  clear HS_W6
  have BW7 : Below w.heap.size w W7 := BW6.trans (hbW7.mono BW6.size)
  clear hbW7 BW6
  go_wp2_with fail
  go_at_call 13
  (with_reducible refine (ref_right_is _ _ _ _ _ HB.out _).mono ?_)
  rintro e W8 ⟨rfl, hbW8⟩
  have a0_W8 : W8.cell? ⟨w.heap.size, 0, none⟩ = some (.int .i64 r) := (hbW8.cell (p := ⟨w.heap.size, _, none⟩) zW7_187).trans a0_W7
  have a1_W8 : W8.cell? ⟨w.heap.size, 1, none⟩ = some (.int .i64 c) := (hbW8.cell (p := ⟨w.heap.size, _, none⟩) zW7_187).trans a1_W7
  have a2_W8 : W8.cell? ⟨w.heap.size, 2, none⟩ = some (.int .i64 b) := (hbW8.cell (p := ⟨w.heap.size, _, none⟩) zW7_187).trans a2_W7
  have a3_W8 : W8.cell? ⟨w.heap.size, 3, none⟩ = some (.int .i64 p) := (hbW8.cell (p := ⟨w.heap.size, _, none⟩) zW7_187).trans a3_W7
  have e0_W8 : W8.cell? ⟨nb, 0, none⟩ = some (.int .i64 r2) := (hbW8.cell (p := ⟨nb, _, none⟩) zW7_189).trans e0_W7
  have e1_W8 : W8.cell? ⟨nb, 1, none⟩ = some (.int .i64 c2) := (hbW8.cell (p := ⟨nb, _, none⟩) zW7_189).trans e1_W7
  have e2_W8 : W8.cell? ⟨nb, 2, none⟩ = some (.int .i64 b2) := (hbW8.cell (p := ⟨nb, _, none⟩) zW7_189).trans e2_W7
  have e3_W8 : W8.cell? ⟨nb, 3, none⟩ = some (.int .i64 p2) := (hbW8.cell (p := ⟨nb, _, none⟩) zW7_189).trans e3_W7
  have v0_W8 : W8.cell? ⟨nW3, 0, none⟩ = some (.int .i64 0) := (hbW8.cell (p := ⟨nW3, _, none⟩) zW7_191).trans v0_W7
  have v1_W8 : W8.cell? ⟨nW3, 1, none⟩ = some (.int .i64 0) := (hbW8.cell (p := ⟨nW3, _, none⟩) zW7_191).trans v1_W7
  have v2_W8 : W8.cell? ⟨nW3, 2, none⟩ = some (.int .i64 0) := (hbW8.cell (p := ⟨nW3, _, none⟩) zW7_191).trans v2_W7
  have v3_W8 : W8.cell? ⟨nW3, 3, none⟩ = some (.int .i64 0) := (hbW8.cell (p := ⟨nW3, _, none⟩) zW7_191).trans v3_W7
  clear a0_W7 a1_W7 a2_W7 a3_W7 e0_W7 e1_W7 e2_W7 e3_W7 v0_W7 v1_W7 v2_W7 v3_W7
  have zW8_214 : w.heap.size < W8.heap.size := Nat.lt_of_lt_of_le zW7_187 hbW8.size
  clear zW7_187
  have zW8_216 : nb < W8.heap.size := Nat.lt_of_lt_of_le zW7_189 hbW8.size
  clear zW7_189
  have zW8_218 : nW3 < W8.heap.size := Nat.lt_of_lt_of_le zW7_191 hbW8.size
  clear zW7_191
  have HS_W8 := Lib.hid (HS_W7.out.below hbW8)
  clear HS_W7
  have BW8 : Below w.heap.size w W8 := BW7.trans (hbW8.mono BW7.size)
  clear hbW8 BW7
  go_wp2_with fail
  go_at_call 13
  (with_reducible refine (ref_right_is _ _ _ _ _ HA.out _).mono ?_)
  rintro e W9 ⟨rfl, hbW9⟩
  have a0_W9 : W9.cell? ⟨w.heap.size, 0, none⟩ = some (.int .i64 r) := (hbW9.cell (p := ⟨w.heap.size, _, none⟩) zW8_214).trans a0_W8
  have a1_W9 : W9.cell? ⟨w.heap.size, 1, none⟩ = some (.int .i64 c) := (hbW9.cell (p := ⟨w.heap.size, _, none⟩) zW8_214).trans a1_W8
  have a2_W9 : W9.cell? ⟨w.heap.size, 2, none⟩ = some (.int .i64 b) := (hbW9.cell (p := ⟨w.heap.size, _, none⟩) zW8_214).trans a2_W8
  have a3_W9 : W9.cell? ⟨w.heap.size, 3, none⟩ = some (.int .i64 p) := (hbW9.cell (p := ⟨w.heap.size, _, none⟩) zW8_214).trans a3_W8
  have e0_W9 : W9.cell? ⟨nb, 0, none⟩ = some (.int .i64 r2) := (hbW9.cell (p := ⟨nb, _, none⟩) zW8_216).trans e0_W8
  have e1_W9 : W9.cell? ⟨nb, 1, none⟩ = some (.int .i64 c2) := (hbW9.cell (p := ⟨nb, _, none⟩) zW8_216).trans e1_W8
  have e2_W9 : W9.cell? ⟨nb, 2, none⟩ = some (.int .i64 b2) := (hbW9.cell (p := ⟨nb, _, none⟩) zW8_216).trans e2_W8
  have e3_W9 : W9.cell? ⟨nb, 3, none⟩ = some (.int .i64 p2) := (hbW9.cell (p := ⟨nb, _, none⟩) zW8_216).trans e3_W8
  have v0_W9 : W9.cell? ⟨nW3, 0, none⟩ = some (.int .i64 0) := (hbW9.cell (p := ⟨nW3, _, none⟩) zW8_218).trans v0_W8
  have v1_W9 : W9.cell? ⟨nW3, 1, none⟩ = some (.int .i64 0) := (hbW9.cell (p := ⟨nW3, _, none⟩) zW8_218).trans v1_W8
  have v2_W9 : W9.cell? ⟨nW3, 2, none⟩ = some (.int .i64 0) := (hbW9.cell (p := ⟨nW3, _, none⟩) zW8_218).trans v2_W8
  have v3_W9 : W9.cell? ⟨nW3, 3, none⟩ = some (.int .i64 0) := (hbW9.cell (p := ⟨nW3, _, none⟩) zW8_218).trans v3_W8
  clear a0_W8 a1_W8 a2_W8 a3_W8 e0_W8 e1_W8 e2_W8 e3_W8 v0_W8 v1_W8 v2_W8 v3_W8
  have zW9_241 : w.heap.size < W9.heap.size := Nat.lt_of_lt_of_le zW8_214 hbW9.size
  clear zW8_214
  have zW9_243 : nb < W9.heap.size := Nat.lt_of_lt_of_le zW8_216 hbW9.size
  clear zW8_216
  have zW9_245 : nW3 < W9.heap.size := Nat.lt_of_lt_of_le zW8_218 hbW9.size
  clear zW8_218
  have HS_W9 := Lib.hid (HS_W8.out.below hbW9)
  clear HS_W8
  have BW9 : Below w.heap.size w W9 := BW8.trans (hbW9.mono BW8.size)
  clear hbW9 BW8
  go_wp2_with fail
  go_at_call 17
  (with_reducible refine (ref_all_is _ _ _ _ _ (by omega) HS_W9.out HL.out).mono ?_)
  rintro e W10 ⟨rfl, hbW10⟩
  have a0_W10 : W10.cell? ⟨w.heap.size, 0, none⟩ = some (.int .i64 r) := (hbW10.cell (p := ⟨w.heap.size, _, none⟩) zW9_241).trans a0_W9
  have a1_W10 : W10.cell? ⟨w.heap.size, 1, none⟩ = some (.int .i64 c) := (hbW10.cell (p := ⟨w.heap.size, _, none⟩) zW9_241).trans a1_W9
  have a2_W10 : W10.cell? ⟨w.heap.size, 2, none⟩ = some (.int .i64 b) := (hbW10.cell (p := ⟨w.heap.size, _, none⟩) zW9_241).trans a2_W9
  have a3_W10 : W10.cell? ⟨w.heap.size, 3, none⟩ = some (.int .i64 p) := (hbW10.cell (p := ⟨w.heap.size, _, none⟩) zW9_241).trans a3_W9
  have e0_W10 : W10.cell? ⟨nb, 0, none⟩ = some (.int .i64 r2) := (hbW10.cell (p := ⟨nb, _, none⟩) zW9_243).trans e0_W9
  have e1_W10 : W10.cell? ⟨nb, 1, none⟩ = some (.int .i64 c2) := (hbW10.cell (p := ⟨nb, _, none⟩) zW9_243).trans e1_W9
  have e2_W10 : W10.cell? ⟨nb, 2, none⟩ = some (.int .i64 b2) := (hbW10.cell (p := ⟨nb, _, none⟩) zW9_243).trans e2_W9
  have e3_W10 : W10.cell? ⟨nb, 3, none⟩ = some (.int .i64 p2) := (hbW10.cell (p := ⟨nb, _, none⟩) zW9_243).trans e3_W9
  have v0_W10 : W10.cell? ⟨nW3, 0, none⟩ = some (.int .i64 0) := (hbW10.cell (p := ⟨nW3, _, none⟩) zW9_245).trans v0_W9
  have v1_W10 : W10.cell? ⟨nW3, 1, none⟩ = some (.int .i64 0) := (hbW10.cell (p := ⟨nW3, _, none⟩) zW9_245).trans v1_W9
  have v2_W10 : W10.cell? ⟨nW3, 2, none⟩ = some (.int .i64 0) := (hbW10.cell (p := ⟨nW3, _, none⟩) zW9_245).trans v2_W9
  have v3_W10 : W10.cell? ⟨nW3, 3, none⟩ = some (.int .i64 0) := (hbW10.cell (p := ⟨nW3, _, none⟩) zW9_245).trans v3_W9
  clear a0_W9 a1_W9 a2_W9 a3_W9 e0_W9 e1_W9 e2_W9 e3_W9 v0_W9 v1_W9 v2_W9 v3_W9
  have zW10_268 : w.heap.size < W10.heap.size := Nat.lt_of_lt_of_le zW9_241 hbW10.size
  clear zW9_241
  have zW10_270 : nb < W10.heap.size := Nat.lt_of_lt_of_le zW9_243 hbW10.size
  clear zW9_243
  have zW10_272 : nW3 < W10.heap.size := Nat.lt_of_lt_of_le zW9_245 hbW10.size
  clear zW9_245
  have HS_W10 := Lib.hid (HS_W9.out.below hbW10)
  clear HS_W9
  have BW10 : Below w.heap.size w W10 := BW9.trans (hbW10.mono BW9.size)
  clear hbW10 BW9
  clear a0_W10
  clear a1_W10
  clear a2_W10
  clear a3_W10
  clear e0_W10
  clear e1_W10
  clear e2_W10
  clear e3_W10
  clear v0_W10
  clear v1_W10
  clear v2_W10
  clear v3_W10
  go_wp2_with fail
  go_ret
  exact ⟨rfl, BW10⟩

set_option maxHeartbeats 8000000 in
theorem tells_yny_bad (r c b p r2 c2 b2 p2 n : Int) (A : Option Addr) (n0 cap : Nat) (w : World) (ha : okV r c b p = true) (hb : okV r2 c2 b2 p2 = false) (hn0 : 0 ≤ n) (hn : n ≤ 2147483647) (l : List V) (hl : l.length ≤ 60) (hlc : l.length ≤ cap) (hS : SlV w A l) (hok : l.all V.ok = false) (hfew : ∀ w, Calls Try.prog 7 #[.slice A n0 cap] w fun e w' => e = .returned (.slice A l.length cap) ∧ w = w') :
    Calls Try.prog 3 #[vv r c b p, vv r2 c2 b2 p2, .int .i64 n, .slice A n0 cap] w fun e w' => e = .returned (.bool true) ∧ Below w.heap.size w w' := by
  have HA := Lib.hid ha
  have HB := Lib.hid hb
  have HC := Lib.hid (inB_of hn0 hn)
  obtain ⟨cc0, cc1, _, _⟩ := far_min c c (okV_cost ha) (okV_cost ha)
  have HS := Lib.hid hS
  have HL := Lib.hid hok
  clear hS hok
  have HF := Lib.hid hfew
  clear hfew ha hb
  go_enter Try.func3, Try.ntmps3
  go_wp2_with fail
  go_at_call 7
  (with_reducible refine (HF.out _).mono ?_)
  rintro e w' ⟨rfl, rfl⟩
  obtain ⟨W0, hW0⟩ : ∃ W0, W0 = (w.alloc (.cells #[.int .i64 r, .int .i64 c, .int .i64 b, .int .i64 p] 23)).alloc (.cells #[.int .i64 r2, .int .i64 c2, .int .i64 b2, .int .i64 p2] 23) := ⟨_, rfl⟩
  have B0 : Below w.heap.size w W0 := by rw [hW0]; exact ((Below.refl _ _).alloc (Nat.le_refl _) _).alloc (by simp) _
  have za : w.heap.size < W0.heap.size := by rw [hW0]; simp; omega
  have zb : w.heap.size + 1 < W0.heap.size := by rw [hW0]; simp
  have a0 : W0.cell? ⟨w.heap.size, 0, none⟩ = some (.int .i64 r) := by rw [hW0]; go_simp
  have a1 : W0.cell? ⟨w.heap.size, 1, none⟩ = some (.int .i64 c) := by rw [hW0]; go_simp
  have a2 : W0.cell? ⟨w.heap.size, 2, none⟩ = some (.int .i64 b) := by rw [hW0]; go_simp
  have a3 : W0.cell? ⟨w.heap.size, 3, none⟩ = some (.int .i64 p) := by rw [hW0]; go_simp
  have e0 : W0.cell? ⟨w.heap.size + 1, 0, none⟩ = some (.int .i64 r2) := by rw [hW0]; go_simp
  have e1 : W0.cell? ⟨w.heap.size + 1, 1, none⟩ = some (.int .i64 c2) := by rw [hW0]; go_simp
  have e2 : W0.cell? ⟨w.heap.size + 1, 2, none⟩ = some (.int .i64 b2) := by rw [hW0]; go_simp
  have e3 : W0.cell? ⟨w.heap.size + 1, 3, none⟩ = some (.int .i64 p2) := by rw [hW0]; go_simp
  have HS0 := Lib.hid (HS.out.below B0)
  rw [← hW0]
  clear hW0 HS
  generalize w.heap.size + 1 = nb at *
  go_wp2_with fail
  go_at_call 8
  (with_reducible refine (better_bad _ _ _ _ _ _ _ _ _ (by rw [HB.out, Bool.and_false])).mono ?_)
  rintro e W1 ⟨rfl, hbW1⟩
  have a0_W1 : W1.cell? ⟨w.heap.size, 0, none⟩ = some (.int .i64 r) := (hbW1.cell (p := ⟨w.heap.size, _, none⟩) za).trans a0
  have a1_W1 : W1.cell? ⟨w.heap.size, 1, none⟩ = some (.int .i64 c) := (hbW1.cell (p := ⟨w.heap.size, _, none⟩) za).trans a1
  have a2_W1 : W1.cell? ⟨w.heap.size, 2, none⟩ = some (.int .i64 b) := (hbW1.cell (p := ⟨w.heap.size, _, none⟩) za).trans a2
  have a3_W1 : W1.cell? ⟨w.heap.size, 3, none⟩ = some (.int .i64 p) := (hbW1.cell (p := ⟨w.heap.size, _, none⟩) za).trans a3
  have e0_W1 : W1.cell? ⟨nb, 0, none⟩ = some (.int .i64 r2) := (hbW1.cell (p := ⟨nb, _, none⟩) zb).trans e0
  have e1_W1 : W1.cell? ⟨nb, 1, none⟩ = some (.int .i64 c2) := (hbW1.cell (p := ⟨nb, _, none⟩) zb).trans e1
  have e2_W1 : W1.cell? ⟨nb, 2, none⟩ = some (.int .i64 b2) := (hbW1.cell (p := ⟨nb, _, none⟩) zb).trans e2
  have e3_W1 : W1.cell? ⟨nb, 3, none⟩ = some (.int .i64 p2) := (hbW1.cell (p := ⟨nb, _, none⟩) zb).trans e3
  clear a0 a1 a2 a3 e0 e1 e2 e3
  have zW1_13 : w.heap.size < W1.heap.size := Nat.lt_of_lt_of_le za hbW1.size
  clear za
  have zW1_15 : nb < W1.heap.size := Nat.lt_of_lt_of_le zb hbW1.size
  clear zb
  have HS_W1 := Lib.hid (HS0.out.below hbW1)
  clear HS0
  have BW1 : Below w.heap.size w W1 := B0.trans (hbW1.mono B0.size)
  clear hbW1 B0
  go_wp2_with fail
  go_at_call 9
  (with_reducible refine (far_good _ _ _ _ _ _ HA.out HC.out).mono ?_)
  rintro e W2 ⟨rfl, hbW2⟩
  have a0_W2 : W2.cell? ⟨w.heap.size, 0, none⟩ = some (.int .i64 r) := (hbW2.cell (p := ⟨w.heap.size, _, none⟩) zW1_13).trans a0_W1
  have a1_W2 : W2.cell? ⟨w.heap.size, 1, none⟩ = some (.int .i64 c) := (hbW2.cell (p := ⟨w.heap.size, _, none⟩) zW1_13).trans a1_W1
  have a2_W2 : W2.cell? ⟨w.heap.size, 2, none⟩ = some (.int .i64 b) := (hbW2.cell (p := ⟨w.heap.size, _, none⟩) zW1_13).trans a2_W1
  have a3_W2 : W2.cell? ⟨w.heap.size, 3, none⟩ = some (.int .i64 p) := (hbW2.cell (p := ⟨w.heap.size, _, none⟩) zW1_13).trans a3_W1
  have e0_W2 : W2.cell? ⟨nb, 0, none⟩ = some (.int .i64 r2) := (hbW2.cell (p := ⟨nb, _, none⟩) zW1_15).trans e0_W1
  have e1_W2 : W2.cell? ⟨nb, 1, none⟩ = some (.int .i64 c2) := (hbW2.cell (p := ⟨nb, _, none⟩) zW1_15).trans e1_W1
  have e2_W2 : W2.cell? ⟨nb, 2, none⟩ = some (.int .i64 b2) := (hbW2.cell (p := ⟨nb, _, none⟩) zW1_15).trans e2_W1
  have e3_W2 : W2.cell? ⟨nb, 3, none⟩ = some (.int .i64 p2) := (hbW2.cell (p := ⟨nb, _, none⟩) zW1_15).trans e3_W1
  clear a0_W1 a1_W1 a2_W1 a3_W1 e0_W1 e1_W1 e2_W1 e3_W1
  have zW2_34 : w.heap.size < W2.heap.size := Nat.lt_of_lt_of_le zW1_13 hbW2.size
  clear zW1_13
  have zW2_36 : nb < W2.heap.size := Nat.lt_of_lt_of_le zW1_15 hbW2.size
  clear zW1_15
  have HS_W2 := Lib.hid (HS_W1.out.below hbW2)
  clear HS_W1
  have BW2 : Below w.heap.size w W2 := BW1.trans (hbW2.mono BW1.size)
  clear hbW2 BW1
  obtain ⟨X, hX⟩ : ∃ X, min (c + n) 2147483647 = X := ⟨_, rfl⟩
  rw [hX]
  replace hX := Lib.hid hX
  go_wp2_with fail
  obtain ⟨W3, hW3⟩ : ∃ W3, W3 = W2.alloc (.cells #[.int .i64 r, .int .i64 X, .int .i64 b, .int .i64 p] 23) := ⟨_, rfl⟩
  have BW3 : Below w.heap.size w W3 := by rw [hW3]; exact BW2.alloc BW2.size _
  have a0_W3 : W3.cell? ⟨w.heap.size, 0, none⟩ = some (.int .i64 r) := by rw [hW3, World.cell?_alloc_lt _ _ _ (show w.heap.size < W2.heap.size from zW2_34)]; exact a0_W2
  have a1_W3 : W3.cell? ⟨w.heap.size, 1, none⟩ = some (.int .i64 c) := by rw [hW3, World.cell?_alloc_lt _ _ _ (show w.heap.size < W2.heap.size from zW2_34)]; exact a1_W2
  have a2_W3 : W3.cell? ⟨w.heap.size, 2, none⟩ = some (.int .i64 b) := by rw [hW3, World.cell?_alloc_lt _ _ _ (show w.heap.size < W2.heap.size from zW2_34)]; exact a2_W2
  have a3_W3 : W3.cell? ⟨w.heap.size, 3, none⟩ = some (.int .i64 p) := by rw [hW3, World.cell?_alloc_lt _ _ _ (show w.heap.size < W2.heap.size from zW2_34)]; exact a3_W2
  have e0_W3 : W3.cell? ⟨nb, 0, none⟩ = some (.int .i64 r2) := by rw [hW3, World.cell?_alloc_lt _ _ _ (show nb < W2.heap.size from zW2_36)]; exact e0_W2
  have e1_W3 : W3.cell? ⟨nb, 1, none⟩ = some (.int .i64 c2) := by rw [hW3, World.cell?_alloc_lt _ _ _ (show nb < W2.heap.size from zW2_36)]; exact e1_W2
  have e2_W3 : W3.cell? ⟨nb, 2, none⟩ = some (.int .i64 b2) := by rw [hW3, World.cell?_alloc_lt _ _ _ (show nb < W2.heap.size from zW2_36)]; exact e2_W2
  have e3_W3 : W3.cell? ⟨nb, 3, none⟩ = some (.int .i64 p2) := by rw [hW3, World.cell?_alloc_lt _ _ _ (show nb < W2.heap.size from zW2_36)]; exact e3_W2
  clear a0_W2 a1_W2 a2_W2 a3_W2 e0_W2 e1_W2 e2_W2 e3_W2
  have hzW3 : W3.heap.size = W2.heap.size + 1 := by rw [hW3]; simp
  have zW3_58 : w.heap.size < W3.heap.size := by rw [hzW3]; have := zW2_34; omega
  clear zW2_34
  have zW3_60 : nb < W3.heap.size := by rw [hzW3]; have := zW2_36; omega
  clear zW2_36
  have v0_W3 : W3.cell? ⟨W2.heap.size, 0, none⟩ = some (.int .i64 r) := by rw [hW3]; go_simp
  have v1_W3 : W3.cell? ⟨W2.heap.size, 1, none⟩ = some (.int .i64 X) := by rw [hW3]; go_simp
  have v2_W3 : W3.cell? ⟨W2.heap.size, 2, none⟩ = some (.int .i64 b) := by rw [hW3]; go_simp
  have v3_W3 : W3.cell? ⟨W2.heap.size, 3, none⟩ = some (.int .i64 p) := by rw [hW3]; go_simp
  have HS_W3 := Lib.hid (HS_W2.out.below (show Below W2.heap.size W2 W3 by rw [hW3]; exact (Below.refl _ _).alloc (Nat.le_refl _) _))
  clear HS_W2
  have znW3 : W2.heap.size < W3.heap.size := by rw [hzW3]; omega
  rw [← hW3]
  clear hW3 hzW3 BW2
  generalize W2.heap.size = nW3 at *
  go_at_call 10
  (with_reducible refine (best_bad _ _ _ _ (by omega) HS_W3.out HL.out).mono ?_)
  rintro e W4 ⟨rfl, hbW4⟩
  have a0_W4 : W4.cell? ⟨w.heap.size, 0, none⟩ = some (.int .i64 r) := (hbW4.cell (p := ⟨w.heap.size, _, none⟩) zW3_58).trans a0_W3
  have a1_W4 : W4.cell? ⟨w.heap.size, 1, none⟩ = some (.int .i64 c) := (hbW4.cell (p := ⟨w.heap.size, _, none⟩) zW3_58).trans a1_W3
  have a2_W4 : W4.cell? ⟨w.heap.size, 2, none⟩ = some (.int .i64 b) := (hbW4.cell (p := ⟨w.heap.size, _, none⟩) zW3_58).trans a2_W3
  have a3_W4 : W4.cell? ⟨w.heap.size, 3, none⟩ = some (.int .i64 p) := (hbW4.cell (p := ⟨w.heap.size, _, none⟩) zW3_58).trans a3_W3
  have e0_W4 : W4.cell? ⟨nb, 0, none⟩ = some (.int .i64 r2) := (hbW4.cell (p := ⟨nb, _, none⟩) zW3_60).trans e0_W3
  have e1_W4 : W4.cell? ⟨nb, 1, none⟩ = some (.int .i64 c2) := (hbW4.cell (p := ⟨nb, _, none⟩) zW3_60).trans e1_W3
  have e2_W4 : W4.cell? ⟨nb, 2, none⟩ = some (.int .i64 b2) := (hbW4.cell (p := ⟨nb, _, none⟩) zW3_60).trans e2_W3
  have e3_W4 : W4.cell? ⟨nb, 3, none⟩ = some (.int .i64 p2) := (hbW4.cell (p := ⟨nb, _, none⟩) zW3_60).trans e3_W3
  have v0_W4 : W4.cell? ⟨nW3, 0, none⟩ = some (.int .i64 r) := (hbW4.cell (p := ⟨nW3, _, none⟩) znW3).trans v0_W3
  have v1_W4 : W4.cell? ⟨nW3, 1, none⟩ = some (.int .i64 X) := (hbW4.cell (p := ⟨nW3, _, none⟩) znW3).trans v1_W3
  have v2_W4 : W4.cell? ⟨nW3, 2, none⟩ = some (.int .i64 b) := (hbW4.cell (p := ⟨nW3, _, none⟩) znW3).trans v2_W3
  have v3_W4 : W4.cell? ⟨nW3, 3, none⟩ = some (.int .i64 p) := (hbW4.cell (p := ⟨nW3, _, none⟩) znW3).trans v3_W3
  clear a0_W3 a1_W3 a2_W3 a3_W3 e0_W3 e1_W3 e2_W3 e3_W3 v0_W3 v1_W3 v2_W3 v3_W3
  have zW4_88 : w.heap.size < W4.heap.size := Nat.lt_of_lt_of_le zW3_58 hbW4.size
  clear zW3_58
  have zW4_90 : nb < W4.heap.size := Nat.lt_of_lt_of_le zW3_60 hbW4.size
  clear zW3_60
  have zW4_92 : nW3 < W4.heap.size := Nat.lt_of_lt_of_le znW3 hbW4.size
  clear znW3
  have HS_W4 := Lib.hid (HS_W3.out.below hbW4)
  clear HS_W3
  have BW4 : Below w.heap.size w W4 := BW3.trans (hbW4.mono BW3.size)
  clear hbW4 BW3
  go_wp2_with fail
  go_at_call 11
  (with_reducible refine (sort_bad _ _ _ _ (by omega) HS_W4.out HL.out).mono ?_)
  rintro e W5 ⟨rfl, hbW5⟩
  have a0_W5 : W5.cell? ⟨w.heap.size, 0, none⟩ = some (.int .i64 r) := (hbW5.cell (p := ⟨w.heap.size, _, none⟩) zW4_88).trans a0_W4
  have a1_W5 : W5.cell? ⟨w.heap.size, 1, none⟩ = some (.int .i64 c) := (hbW5.cell (p := ⟨w.heap.size, _, none⟩) zW4_88).trans a1_W4
  have a2_W5 : W5.cell? ⟨w.heap.size, 2, none⟩ = some (.int .i64 b) := (hbW5.cell (p := ⟨w.heap.size, _, none⟩) zW4_88).trans a2_W4
  have a3_W5 : W5.cell? ⟨w.heap.size, 3, none⟩ = some (.int .i64 p) := (hbW5.cell (p := ⟨w.heap.size, _, none⟩) zW4_88).trans a3_W4
  have e0_W5 : W5.cell? ⟨nb, 0, none⟩ = some (.int .i64 r2) := (hbW5.cell (p := ⟨nb, _, none⟩) zW4_90).trans e0_W4
  have e1_W5 : W5.cell? ⟨nb, 1, none⟩ = some (.int .i64 c2) := (hbW5.cell (p := ⟨nb, _, none⟩) zW4_90).trans e1_W4
  have e2_W5 : W5.cell? ⟨nb, 2, none⟩ = some (.int .i64 b2) := (hbW5.cell (p := ⟨nb, _, none⟩) zW4_90).trans e2_W4
  have e3_W5 : W5.cell? ⟨nb, 3, none⟩ = some (.int .i64 p2) := (hbW5.cell (p := ⟨nb, _, none⟩) zW4_90).trans e3_W4
  have v0_W5 : W5.cell? ⟨nW3, 0, none⟩ = some (.int .i64 r) := (hbW5.cell (p := ⟨nW3, _, none⟩) zW4_92).trans v0_W4
  have v1_W5 : W5.cell? ⟨nW3, 1, none⟩ = some (.int .i64 X) := (hbW5.cell (p := ⟨nW3, _, none⟩) zW4_92).trans v1_W4
  have v2_W5 : W5.cell? ⟨nW3, 2, none⟩ = some (.int .i64 b) := (hbW5.cell (p := ⟨nW3, _, none⟩) zW4_92).trans v2_W4
  have v3_W5 : W5.cell? ⟨nW3, 3, none⟩ = some (.int .i64 p) := (hbW5.cell (p := ⟨nW3, _, none⟩) zW4_92).trans v3_W4
  clear a0_W4 a1_W4 a2_W4 a3_W4 e0_W4 e1_W4 e2_W4 e3_W4 v0_W4 v1_W4 v2_W4 v3_W4
  have zW5_115 : w.heap.size < W5.heap.size := Nat.lt_of_lt_of_le zW4_88 hbW5.size
  clear zW4_88
  have zW5_117 : nb < W5.heap.size := Nat.lt_of_lt_of_le zW4_90 hbW5.size
  clear zW4_90
  have zW5_119 : nW3 < W5.heap.size := Nat.lt_of_lt_of_le zW4_92 hbW5.size
  clear zW4_92
  have HS_W5 := Lib.hid (HS_W4.out.below hbW5)
  clear HS_W4
  have BW5 : Below w.heap.size w W5 := BW4.trans (hbW5.mono BW4.size)
  clear hbW5 BW4
  go_wp2_with fail
  have K_a0 := cell_regrown a0_W5
  have K_a1 := cell_regrown a1_W5
  have K_a2 := cell_regrown a2_W5
  have K_a3 := cell_regrown a3_W5
  have K_e0 := cell_regrown e0_W5
  have K_e1 := cell_regrown e1_W5
  have K_e2 := cell_regrown e2_W5
  have K_e3 := cell_regrown e3_W5
  have K_v0 := cell_regrown v0_W5
  have K_v1 := cell_regrown v1_W5
  have K_v2 := cell_regrown v2_W5
  have K_v3 := cell_regrown v3_W5
  clear a0_W5 a1_W5 a2_W5 a3_W5 e0_W5 e1_W5 e2_W5 e3_W5 v0_W5 v1_W5 v2_W5 v3_W5
  have cC0 := fun (d : Nat) (os : Array Obj) => Calls.regrown_of (right_is r c b p _ HA.out (Go.Sort.grow (redrawn W5 d) os))
  have cC1 := fun (d : Nat) (os : Array Obj) => Calls.regrown_of (ref_right_is r c b p _ HA.out (Go.Sort.grow (redrawn W5 d) os))
  have cC2 := fun (d : Nat) (os : Array Obj) => Calls.regrown_of (alive_any (Go.Sort.grow (redrawn W5 d) os))
  refine wp_region_quiet_below (by kernel_rfl) (by kernel_rfl) ?_
  repeat (first | go_big_quiet_step (first | exact cC0 _ _ | exact cC1 _ _ | exact cC2 _ _) | quiet_step (first | exact cC0 _ _ | exact cC1 _ _ | exact cC2 _ _))
  refine wpQuiet_nil ?_
  intro _ hw'
  obtain ⟨⟨dq, osq⟩, hw''⟩ := hw'
  subst hw''
  have hbW6 := below_regrown W5 dq osq
  have a0_W6 := K_a0 dq osq
  have a1_W6 := K_a1 dq osq
  have a2_W6 := K_a2 dq osq
  have a3_W6 := K_a3 dq osq
  have e0_W6 := K_e0 dq osq
  have e1_W6 := K_e1 dq osq
  have e2_W6 := K_e2 dq osq
  have e3_W6 := K_e3 dq osq
  have v0_W6 := K_v0 dq osq
  have v1_W6 := K_v1 dq osq
  have v2_W6 := K_v2 dq osq
  have v3_W6 := K_v3 dq osq
  clear K_a0 K_a1 K_a2 K_a3 K_e0 K_e1 K_e2 K_e3 K_v0 K_v1 K_v2 K_v3 cC0 cC1 cC2 
  have zW6_162 : w.heap.size < (Go.Sort.grow (redrawn W5 dq) osq).heap.size := Nat.lt_of_lt_of_le zW5_115 hbW6.size
  clear zW5_115
  have zW6_164 : nb < (Go.Sort.grow (redrawn W5 dq) osq).heap.size := Nat.lt_of_lt_of_le zW5_117 hbW6.size
  clear zW5_117
  have zW6_166 : nW3 < (Go.Sort.grow (redrawn W5 dq) osq).heap.size := Nat.lt_of_lt_of_le zW5_119 hbW6.size
  clear zW5_119
  have HS_W6 := Lib.hid (HS_W5.out.below hbW6)
  clear HS_W5
  have BW6 : Below w.heap.size w (Go.Sort.grow (redrawn W5 dq) osq) := BW5.trans (hbW6.mono BW5.size)
  clear hbW6 BW5
  generalize Go.Sort.grow (redrawn W5 dq) osq = W6 at *
  go_wp2_with fail
  go_at_call 13
  (with_reducible refine (ref_right_is _ _ _ _ _ HA.out _).mono ?_)
  rintro e W7 ⟨rfl, hbW7⟩
  have a0_W7 : W7.cell? ⟨w.heap.size, 0, none⟩ = some (.int .i64 r) := (hbW7.cell (p := ⟨w.heap.size, _, none⟩) zW6_162).trans a0_W6
  have a1_W7 : W7.cell? ⟨w.heap.size, 1, none⟩ = some (.int .i64 c) := (hbW7.cell (p := ⟨w.heap.size, _, none⟩) zW6_162).trans a1_W6
  have a2_W7 : W7.cell? ⟨w.heap.size, 2, none⟩ = some (.int .i64 b) := (hbW7.cell (p := ⟨w.heap.size, _, none⟩) zW6_162).trans a2_W6
  have a3_W7 : W7.cell? ⟨w.heap.size, 3, none⟩ = some (.int .i64 p) := (hbW7.cell (p := ⟨w.heap.size, _, none⟩) zW6_162).trans a3_W6
  have e0_W7 : W7.cell? ⟨nb, 0, none⟩ = some (.int .i64 r2) := (hbW7.cell (p := ⟨nb, _, none⟩) zW6_164).trans e0_W6
  have e1_W7 : W7.cell? ⟨nb, 1, none⟩ = some (.int .i64 c2) := (hbW7.cell (p := ⟨nb, _, none⟩) zW6_164).trans e1_W6
  have e2_W7 : W7.cell? ⟨nb, 2, none⟩ = some (.int .i64 b2) := (hbW7.cell (p := ⟨nb, _, none⟩) zW6_164).trans e2_W6
  have e3_W7 : W7.cell? ⟨nb, 3, none⟩ = some (.int .i64 p2) := (hbW7.cell (p := ⟨nb, _, none⟩) zW6_164).trans e3_W6
  have v0_W7 : W7.cell? ⟨nW3, 0, none⟩ = some (.int .i64 r) := (hbW7.cell (p := ⟨nW3, _, none⟩) zW6_166).trans v0_W6
  have v1_W7 : W7.cell? ⟨nW3, 1, none⟩ = some (.int .i64 X) := (hbW7.cell (p := ⟨nW3, _, none⟩) zW6_166).trans v1_W6
  have v2_W7 : W7.cell? ⟨nW3, 2, none⟩ = some (.int .i64 b) := (hbW7.cell (p := ⟨nW3, _, none⟩) zW6_166).trans v2_W6
  have v3_W7 : W7.cell? ⟨nW3, 3, none⟩ = some (.int .i64 p) := (hbW7.cell (p := ⟨nW3, _, none⟩) zW6_166).trans v3_W6
  clear a0_W6 a1_W6 a2_W6 a3_W6 e0_W6 e1_W6 e2_W6 e3_W6 v0_W6 v1_W6 v2_W6 v3_W6
  have zW7_190 : w.heap.size < W7.heap.size := Nat.lt_of_lt_of_le zW6_162 hbW7.size
  clear zW6_162
  have zW7_192 : nb < W7.heap.size := Nat.lt_of_lt_of_le zW6_164 hbW7.size
  clear zW6_164
  have zW7_194 : nW3 < W7.heap.size := Nat.lt_of_lt_of_le zW6_166 hbW7.size
  clear zW6_166
  have HS_W7 := Lib.hid (HS_W6.out.below hbW7)
  clear HS_W6
  have BW7 : Below w.heap.size w W7 := BW6.trans (hbW7.mono BW6.size)
  clear hbW7 BW6
  go_wp2_with fail
  go_at_call 13
  (with_reducible refine (ref_right_is _ _ _ _ _ HB.out _).mono ?_)
  rintro e W8 ⟨rfl, hbW8⟩
  have a0_W8 : W8.cell? ⟨w.heap.size, 0, none⟩ = some (.int .i64 r) := (hbW8.cell (p := ⟨w.heap.size, _, none⟩) zW7_190).trans a0_W7
  have a1_W8 : W8.cell? ⟨w.heap.size, 1, none⟩ = some (.int .i64 c) := (hbW8.cell (p := ⟨w.heap.size, _, none⟩) zW7_190).trans a1_W7
  have a2_W8 : W8.cell? ⟨w.heap.size, 2, none⟩ = some (.int .i64 b) := (hbW8.cell (p := ⟨w.heap.size, _, none⟩) zW7_190).trans a2_W7
  have a3_W8 : W8.cell? ⟨w.heap.size, 3, none⟩ = some (.int .i64 p) := (hbW8.cell (p := ⟨w.heap.size, _, none⟩) zW7_190).trans a3_W7
  have e0_W8 : W8.cell? ⟨nb, 0, none⟩ = some (.int .i64 r2) := (hbW8.cell (p := ⟨nb, _, none⟩) zW7_192).trans e0_W7
  have e1_W8 : W8.cell? ⟨nb, 1, none⟩ = some (.int .i64 c2) := (hbW8.cell (p := ⟨nb, _, none⟩) zW7_192).trans e1_W7
  have e2_W8 : W8.cell? ⟨nb, 2, none⟩ = some (.int .i64 b2) := (hbW8.cell (p := ⟨nb, _, none⟩) zW7_192).trans e2_W7
  have e3_W8 : W8.cell? ⟨nb, 3, none⟩ = some (.int .i64 p2) := (hbW8.cell (p := ⟨nb, _, none⟩) zW7_192).trans e3_W7
  have v0_W8 : W8.cell? ⟨nW3, 0, none⟩ = some (.int .i64 r) := (hbW8.cell (p := ⟨nW3, _, none⟩) zW7_194).trans v0_W7
  have v1_W8 : W8.cell? ⟨nW3, 1, none⟩ = some (.int .i64 X) := (hbW8.cell (p := ⟨nW3, _, none⟩) zW7_194).trans v1_W7
  have v2_W8 : W8.cell? ⟨nW3, 2, none⟩ = some (.int .i64 b) := (hbW8.cell (p := ⟨nW3, _, none⟩) zW7_194).trans v2_W7
  have v3_W8 : W8.cell? ⟨nW3, 3, none⟩ = some (.int .i64 p) := (hbW8.cell (p := ⟨nW3, _, none⟩) zW7_194).trans v3_W7
  clear a0_W7 a1_W7 a2_W7 a3_W7 e0_W7 e1_W7 e2_W7 e3_W7 v0_W7 v1_W7 v2_W7 v3_W7
  have zW8_217 : w.heap.size < W8.heap.size := Nat.lt_of_lt_of_le zW7_190 hbW8.size
  clear zW7_190
  have zW8_219 : nb < W8.heap.size := Nat.lt_of_lt_of_le zW7_192 hbW8.size
  clear zW7_192
  have zW8_221 : nW3 < W8.heap.size := Nat.lt_of_lt_of_le zW7_194 hbW8.size
  clear zW7_194
  have HS_W8 := Lib.hid (HS_W7.out.below hbW8)
  clear HS_W7
  have BW8 : Below w.heap.size w W8 := BW7.trans (hbW8.mono BW7.size)
  clear hbW8 BW7
  go_wp2_with fail
  go_at_call 13
  (with_reducible refine (ref_right_is _ _ _ _ _ HA.out _).mono ?_)
  rintro e W9 ⟨rfl, hbW9⟩
  have a0_W9 : W9.cell? ⟨w.heap.size, 0, none⟩ = some (.int .i64 r) := (hbW9.cell (p := ⟨w.heap.size, _, none⟩) zW8_217).trans a0_W8
  have a1_W9 : W9.cell? ⟨w.heap.size, 1, none⟩ = some (.int .i64 c) := (hbW9.cell (p := ⟨w.heap.size, _, none⟩) zW8_217).trans a1_W8
  have a2_W9 : W9.cell? ⟨w.heap.size, 2, none⟩ = some (.int .i64 b) := (hbW9.cell (p := ⟨w.heap.size, _, none⟩) zW8_217).trans a2_W8
  have a3_W9 : W9.cell? ⟨w.heap.size, 3, none⟩ = some (.int .i64 p) := (hbW9.cell (p := ⟨w.heap.size, _, none⟩) zW8_217).trans a3_W8
  have e0_W9 : W9.cell? ⟨nb, 0, none⟩ = some (.int .i64 r2) := (hbW9.cell (p := ⟨nb, _, none⟩) zW8_219).trans e0_W8
  have e1_W9 : W9.cell? ⟨nb, 1, none⟩ = some (.int .i64 c2) := (hbW9.cell (p := ⟨nb, _, none⟩) zW8_219).trans e1_W8
  have e2_W9 : W9.cell? ⟨nb, 2, none⟩ = some (.int .i64 b2) := (hbW9.cell (p := ⟨nb, _, none⟩) zW8_219).trans e2_W8
  have e3_W9 : W9.cell? ⟨nb, 3, none⟩ = some (.int .i64 p2) := (hbW9.cell (p := ⟨nb, _, none⟩) zW8_219).trans e3_W8
  have v0_W9 : W9.cell? ⟨nW3, 0, none⟩ = some (.int .i64 r) := (hbW9.cell (p := ⟨nW3, _, none⟩) zW8_221).trans v0_W8
  have v1_W9 : W9.cell? ⟨nW3, 1, none⟩ = some (.int .i64 X) := (hbW9.cell (p := ⟨nW3, _, none⟩) zW8_221).trans v1_W8
  have v2_W9 : W9.cell? ⟨nW3, 2, none⟩ = some (.int .i64 b) := (hbW9.cell (p := ⟨nW3, _, none⟩) zW8_221).trans v2_W8
  have v3_W9 : W9.cell? ⟨nW3, 3, none⟩ = some (.int .i64 p) := (hbW9.cell (p := ⟨nW3, _, none⟩) zW8_221).trans v3_W8
  clear a0_W8 a1_W8 a2_W8 a3_W8 e0_W8 e1_W8 e2_W8 e3_W8 v0_W8 v1_W8 v2_W8 v3_W8
  have zW9_244 : w.heap.size < W9.heap.size := Nat.lt_of_lt_of_le zW8_217 hbW9.size
  clear zW8_217
  have zW9_246 : nb < W9.heap.size := Nat.lt_of_lt_of_le zW8_219 hbW9.size
  clear zW8_219
  have zW9_248 : nW3 < W9.heap.size := Nat.lt_of_lt_of_le zW8_221 hbW9.size
  clear zW8_221
  have HS_W9 := Lib.hid (HS_W8.out.below hbW9)
  clear HS_W8
  have BW9 : Below w.heap.size w W9 := BW8.trans (hbW9.mono BW8.size)
  clear hbW9 BW8
  go_wp2_with fail
  have K_a0 := cell_regrown a0_W9
  have K_a1 := cell_regrown a1_W9
  have K_a2 := cell_regrown a2_W9
  have K_a3 := cell_regrown a3_W9
  have K_e0 := cell_regrown e0_W9
  have K_e1 := cell_regrown e1_W9
  have K_e2 := cell_regrown e2_W9
  have K_e3 := cell_regrown e3_W9
  have K_v0 := cell_regrown v0_W9
  have K_v1 := cell_regrown v1_W9
  have K_v2 := cell_regrown v2_W9
  have K_v3 := cell_regrown v3_W9
  clear a0_W9 a1_W9 a2_W9 a3_W9 e0_W9 e1_W9 e2_W9 e3_W9 v0_W9 v1_W9 v2_W9 v3_W9
  have cC0 := fun (d : Nat) (os : Array Obj) => Calls.regrown_of (ref_far_is r c b p n X (Go.Sort.grow (redrawn W9 d) os) cc0 cc1 hn0 hn hX.out)
  refine wp_region_quiet_below (by kernel_rfl) (by kernel_rfl) ?_
  repeat (first | go_big_quiet_step (exact cC0 _ _) | quiet_step (exact cC0 _ _))
  refine wpQuiet_nil ?_
  intro _ hw'
  obtain ⟨⟨dq, osq⟩, hw''⟩ := hw'
  subst hw''
  have hbW10 := below_regrown W9 dq osq
  have a0_W10 := K_a0 dq osq
  have a1_W10 := K_a1 dq osq
  have a2_W10 := K_a2 dq osq
  have a3_W10 := K_a3 dq osq
  have e0_W10 := K_e0 dq osq
  have e1_W10 := K_e1 dq osq
  have e2_W10 := K_e2 dq osq
  have e3_W10 := K_e3 dq osq
  have v0_W10 := K_v0 dq osq
  have v1_W10 := K_v1 dq osq
  have v2_W10 := K_v2 dq osq
  have v3_W10 := K_v3 dq osq
  clear K_a0 K_a1 K_a2 K_a3 K_e0 K_e1 K_e2 K_e3 K_v0 K_v1 K_v2 K_v3 cC0 
  have zW10_289 : w.heap.size < (Go.Sort.grow (redrawn W9 dq) osq).heap.size := Nat.lt_of_lt_of_le zW9_244 hbW10.size
  clear zW9_244
  have zW10_291 : nb < (Go.Sort.grow (redrawn W9 dq) osq).heap.size := Nat.lt_of_lt_of_le zW9_246 hbW10.size
  clear zW9_246
  have zW10_293 : nW3 < (Go.Sort.grow (redrawn W9 dq) osq).heap.size := Nat.lt_of_lt_of_le zW9_248 hbW10.size
  clear zW9_248
  have HS_W10 := Lib.hid (HS_W9.out.below hbW10)
  clear HS_W9
  have BW10 : Below w.heap.size w (Go.Sort.grow (redrawn W9 dq) osq) := BW9.trans (hbW10.mono BW9.size)
  clear hbW10 BW9
  generalize Go.Sort.grow (redrawn W9 dq) osq = W10 at *
  go_wp2_with fail
  go_at_call 17
  (with_reducible refine (ref_all_is _ _ _ _ _ (by omega) HS_W10.out HL.out).mono ?_)
  rintro e W11 ⟨rfl, hbW11⟩
  have a0_W11 : W11.cell? ⟨w.heap.size, 0, none⟩ = some (.int .i64 r) := (hbW11.cell (p := ⟨w.heap.size, _, none⟩) zW10_289).trans a0_W10
  have a1_W11 : W11.cell? ⟨w.heap.size, 1, none⟩ = some (.int .i64 c) := (hbW11.cell (p := ⟨w.heap.size, _, none⟩) zW10_289).trans a1_W10
  have a2_W11 : W11.cell? ⟨w.heap.size, 2, none⟩ = some (.int .i64 b) := (hbW11.cell (p := ⟨w.heap.size, _, none⟩) zW10_289).trans a2_W10
  have a3_W11 : W11.cell? ⟨w.heap.size, 3, none⟩ = some (.int .i64 p) := (hbW11.cell (p := ⟨w.heap.size, _, none⟩) zW10_289).trans a3_W10
  have e0_W11 : W11.cell? ⟨nb, 0, none⟩ = some (.int .i64 r2) := (hbW11.cell (p := ⟨nb, _, none⟩) zW10_291).trans e0_W10
  have e1_W11 : W11.cell? ⟨nb, 1, none⟩ = some (.int .i64 c2) := (hbW11.cell (p := ⟨nb, _, none⟩) zW10_291).trans e1_W10
  have e2_W11 : W11.cell? ⟨nb, 2, none⟩ = some (.int .i64 b2) := (hbW11.cell (p := ⟨nb, _, none⟩) zW10_291).trans e2_W10
  have e3_W11 : W11.cell? ⟨nb, 3, none⟩ = some (.int .i64 p2) := (hbW11.cell (p := ⟨nb, _, none⟩) zW10_291).trans e3_W10
  have v0_W11 : W11.cell? ⟨nW3, 0, none⟩ = some (.int .i64 r) := (hbW11.cell (p := ⟨nW3, _, none⟩) zW10_293).trans v0_W10
  have v1_W11 : W11.cell? ⟨nW3, 1, none⟩ = some (.int .i64 X) := (hbW11.cell (p := ⟨nW3, _, none⟩) zW10_293).trans v1_W10
  have v2_W11 : W11.cell? ⟨nW3, 2, none⟩ = some (.int .i64 b) := (hbW11.cell (p := ⟨nW3, _, none⟩) zW10_293).trans v2_W10
  have v3_W11 : W11.cell? ⟨nW3, 3, none⟩ = some (.int .i64 p) := (hbW11.cell (p := ⟨nW3, _, none⟩) zW10_293).trans v3_W10
  clear a0_W10 a1_W10 a2_W10 a3_W10 e0_W10 e1_W10 e2_W10 e3_W10 v0_W10 v1_W10 v2_W10 v3_W10
  have zW11_317 : w.heap.size < W11.heap.size := Nat.lt_of_lt_of_le zW10_289 hbW11.size
  clear zW10_289
  have zW11_319 : nb < W11.heap.size := Nat.lt_of_lt_of_le zW10_291 hbW11.size
  clear zW10_291
  have zW11_321 : nW3 < W11.heap.size := Nat.lt_of_lt_of_le zW10_293 hbW11.size
  clear zW10_293
  have HS_W11 := Lib.hid (HS_W10.out.below hbW11)
  clear HS_W10
  have BW11 : Below w.heap.size w W11 := BW10.trans (hbW11.mono BW10.size)
  clear hbW11 BW10
  clear a0_W11
  clear a1_W11
  clear a2_W11
  clear a3_W11
  clear e0_W11
  clear e1_W11
  clear e2_W11
  clear e3_W11
  clear v0_W11
  clear v1_W11
  clear v2_W11
  clear v3_W11
  go_wp2_with fail
  go_ret
  exact ⟨rfl, BW11⟩

set_option maxHeartbeats 8000000 in
theorem tells_yyl_bad (r c b p r2 c2 b2 p2 n : Int) (A : Option Addr) (n0 cap : Nat) (w : World) (ha : okV r c b p = true) (hb : okV r2 c2 b2 p2 = true) (hn : n < 0) (l : List V) (hl : l.length ≤ 60) (hlc : l.length ≤ cap) (hS : SlV w A l) (hok : l.all V.ok = false) (hfew : ∀ w, Calls Try.prog 7 #[.slice A n0 cap] w fun e w' => e = .returned (.slice A l.length cap) ∧ w = w') :
    Calls Try.prog 3 #[vv r c b p, vv r2 c2 b2 p2, .int .i64 n, .slice A n0 cap] w fun e w' => e = .returned (.bool true) ∧ Below w.heap.size w w' := by
  have HA := Lib.hid ha
  have HB := Lib.hid hb
  have HC : Hid (inB n 2147483647 = false) := Lib.hid (by simp [inB]; omega)
  have HS := Lib.hid hS
  have HL := Lib.hid hok
  clear hS hok
  have HF := Lib.hid hfew
  clear hfew ha hb
  go_enter Try.func3, Try.ntmps3
  go_wp2_with fail
  go_at_call 7
  (with_reducible refine (HF.out _).mono ?_)
  rintro e w' ⟨rfl, rfl⟩
  obtain ⟨W0, hW0⟩ : ∃ W0, W0 = (w.alloc (.cells #[.int .i64 r, .int .i64 c, .int .i64 b, .int .i64 p] 23)).alloc (.cells #[.int .i64 r2, .int .i64 c2, .int .i64 b2, .int .i64 p2] 23) := ⟨_, rfl⟩
  have B0 : Below w.heap.size w W0 := by rw [hW0]; exact ((Below.refl _ _).alloc (Nat.le_refl _) _).alloc (by simp) _
  have za : w.heap.size < W0.heap.size := by rw [hW0]; simp; omega
  have zb : w.heap.size + 1 < W0.heap.size := by rw [hW0]; simp
  have a0 : W0.cell? ⟨w.heap.size, 0, none⟩ = some (.int .i64 r) := by rw [hW0]; go_simp
  have a1 : W0.cell? ⟨w.heap.size, 1, none⟩ = some (.int .i64 c) := by rw [hW0]; go_simp
  have a2 : W0.cell? ⟨w.heap.size, 2, none⟩ = some (.int .i64 b) := by rw [hW0]; go_simp
  have a3 : W0.cell? ⟨w.heap.size, 3, none⟩ = some (.int .i64 p) := by rw [hW0]; go_simp
  have e0 : W0.cell? ⟨w.heap.size + 1, 0, none⟩ = some (.int .i64 r2) := by rw [hW0]; go_simp
  have e1 : W0.cell? ⟨w.heap.size + 1, 1, none⟩ = some (.int .i64 c2) := by rw [hW0]; go_simp
  have e2 : W0.cell? ⟨w.heap.size + 1, 2, none⟩ = some (.int .i64 b2) := by rw [hW0]; go_simp
  have e3 : W0.cell? ⟨w.heap.size + 1, 3, none⟩ = some (.int .i64 p2) := by rw [hW0]; go_simp
  have HS0 := Lib.hid (HS.out.below B0)
  rw [← hW0]
  clear hW0 HS
  generalize w.heap.size + 1 = nb at *
  go_wp2_with fail
  go_at_call 8
  (with_reducible refine (better_good _ _ _ _ _ _ _ _ _ HA.out HB.out).mono ?_)
  rintro e W1 ⟨rfl, hbW1⟩
  have a0_W1 : W1.cell? ⟨w.heap.size, 0, none⟩ = some (.int .i64 r) := (hbW1.cell (p := ⟨w.heap.size, _, none⟩) za).trans a0
  have a1_W1 : W1.cell? ⟨w.heap.size, 1, none⟩ = some (.int .i64 c) := (hbW1.cell (p := ⟨w.heap.size, _, none⟩) za).trans a1
  have a2_W1 : W1.cell? ⟨w.heap.size, 2, none⟩ = some (.int .i64 b) := (hbW1.cell (p := ⟨w.heap.size, _, none⟩) za).trans a2
  have a3_W1 : W1.cell? ⟨w.heap.size, 3, none⟩ = some (.int .i64 p) := (hbW1.cell (p := ⟨w.heap.size, _, none⟩) za).trans a3
  have e0_W1 : W1.cell? ⟨nb, 0, none⟩ = some (.int .i64 r2) := (hbW1.cell (p := ⟨nb, _, none⟩) zb).trans e0
  have e1_W1 : W1.cell? ⟨nb, 1, none⟩ = some (.int .i64 c2) := (hbW1.cell (p := ⟨nb, _, none⟩) zb).trans e1
  have e2_W1 : W1.cell? ⟨nb, 2, none⟩ = some (.int .i64 b2) := (hbW1.cell (p := ⟨nb, _, none⟩) zb).trans e2
  have e3_W1 : W1.cell? ⟨nb, 3, none⟩ = some (.int .i64 p2) := (hbW1.cell (p := ⟨nb, _, none⟩) zb).trans e3
  clear a0 a1 a2 a3 e0 e1 e2 e3
  have zW1_13 : w.heap.size < W1.heap.size := Nat.lt_of_lt_of_le za hbW1.size
  clear za
  have zW1_15 : nb < W1.heap.size := Nat.lt_of_lt_of_le zb hbW1.size
  clear zb
  have HS_W1 := Lib.hid (HS0.out.below hbW1)
  clear HS0
  have BW1 : Below w.heap.size w W1 := B0.trans (hbW1.mono B0.size)
  clear hbW1 B0
  go_wp2_with fail
  go_at_call 9
  (with_reducible refine (far_bad2 _ _ _ _ _ _ HA.out HC.out).mono ?_)
  rintro e W2 ⟨rfl, hbW2⟩
  have a0_W2 : W2.cell? ⟨w.heap.size, 0, none⟩ = some (.int .i64 r) := (hbW2.cell (p := ⟨w.heap.size, _, none⟩) zW1_13).trans a0_W1
  have a1_W2 : W2.cell? ⟨w.heap.size, 1, none⟩ = some (.int .i64 c) := (hbW2.cell (p := ⟨w.heap.size, _, none⟩) zW1_13).trans a1_W1
  have a2_W2 : W2.cell? ⟨w.heap.size, 2, none⟩ = some (.int .i64 b) := (hbW2.cell (p := ⟨w.heap.size, _, none⟩) zW1_13).trans a2_W1
  have a3_W2 : W2.cell? ⟨w.heap.size, 3, none⟩ = some (.int .i64 p) := (hbW2.cell (p := ⟨w.heap.size, _, none⟩) zW1_13).trans a3_W1
  have e0_W2 : W2.cell? ⟨nb, 0, none⟩ = some (.int .i64 r2) := (hbW2.cell (p := ⟨nb, _, none⟩) zW1_15).trans e0_W1
  have e1_W2 : W2.cell? ⟨nb, 1, none⟩ = some (.int .i64 c2) := (hbW2.cell (p := ⟨nb, _, none⟩) zW1_15).trans e1_W1
  have e2_W2 : W2.cell? ⟨nb, 2, none⟩ = some (.int .i64 b2) := (hbW2.cell (p := ⟨nb, _, none⟩) zW1_15).trans e2_W1
  have e3_W2 : W2.cell? ⟨nb, 3, none⟩ = some (.int .i64 p2) := (hbW2.cell (p := ⟨nb, _, none⟩) zW1_15).trans e3_W1
  clear a0_W1 a1_W1 a2_W1 a3_W1 e0_W1 e1_W1 e2_W1 e3_W1
  have zW2_34 : w.heap.size < W2.heap.size := Nat.lt_of_lt_of_le zW1_13 hbW2.size
  clear zW1_13
  have zW2_36 : nb < W2.heap.size := Nat.lt_of_lt_of_le zW1_15 hbW2.size
  clear zW1_15
  have HS_W2 := Lib.hid (HS_W1.out.below hbW2)
  clear HS_W1
  have BW2 : Below w.heap.size w W2 := BW1.trans (hbW2.mono BW1.size)
  clear hbW2 BW1
  go_wp2_with fail
  obtain ⟨W3, hW3⟩ : ∃ W3, W3 = W2.alloc (.cells #[.int .i64 0, .int .i64 0, .int .i64 0, .int .i64 0] 23) := ⟨_, rfl⟩
  have BW3 : Below w.heap.size w W3 := by rw [hW3]; exact BW2.alloc BW2.size _
  have a0_W3 : W3.cell? ⟨w.heap.size, 0, none⟩ = some (.int .i64 r) := by rw [hW3, World.cell?_alloc_lt _ _ _ (show w.heap.size < W2.heap.size from zW2_34)]; exact a0_W2
  have a1_W3 : W3.cell? ⟨w.heap.size, 1, none⟩ = some (.int .i64 c) := by rw [hW3, World.cell?_alloc_lt _ _ _ (show w.heap.size < W2.heap.size from zW2_34)]; exact a1_W2
  have a2_W3 : W3.cell? ⟨w.heap.size, 2, none⟩ = some (.int .i64 b) := by rw [hW3, World.cell?_alloc_lt _ _ _ (show w.heap.size < W2.heap.size from zW2_34)]; exact a2_W2
  have a3_W3 : W3.cell? ⟨w.heap.size, 3, none⟩ = some (.int .i64 p) := by rw [hW3, World.cell?_alloc_lt _ _ _ (show w.heap.size < W2.heap.size from zW2_34)]; exact a3_W2
  have e0_W3 : W3.cell? ⟨nb, 0, none⟩ = some (.int .i64 r2) := by rw [hW3, World.cell?_alloc_lt _ _ _ (show nb < W2.heap.size from zW2_36)]; exact e0_W2
  have e1_W3 : W3.cell? ⟨nb, 1, none⟩ = some (.int .i64 c2) := by rw [hW3, World.cell?_alloc_lt _ _ _ (show nb < W2.heap.size from zW2_36)]; exact e1_W2
  have e2_W3 : W3.cell? ⟨nb, 2, none⟩ = some (.int .i64 b2) := by rw [hW3, World.cell?_alloc_lt _ _ _ (show nb < W2.heap.size from zW2_36)]; exact e2_W2
  have e3_W3 : W3.cell? ⟨nb, 3, none⟩ = some (.int .i64 p2) := by rw [hW3, World.cell?_alloc_lt _ _ _ (show nb < W2.heap.size from zW2_36)]; exact e3_W2
  clear a0_W2 a1_W2 a2_W2 a3_W2 e0_W2 e1_W2 e2_W2 e3_W2
  have hzW3 : W3.heap.size = W2.heap.size + 1 := by rw [hW3]; simp
  have zW3_55 : w.heap.size < W3.heap.size := by rw [hzW3]; have := zW2_34; omega
  clear zW2_34
  have zW3_57 : nb < W3.heap.size := by rw [hzW3]; have := zW2_36; omega
  clear zW2_36
  have v0_W3 : W3.cell? ⟨W2.heap.size, 0, none⟩ = some (.int .i64 0) := by rw [hW3]; go_simp
  have v1_W3 : W3.cell? ⟨W2.heap.size, 1, none⟩ = some (.int .i64 0) := by rw [hW3]; go_simp
  have v2_W3 : W3.cell? ⟨W2.heap.size, 2, none⟩ = some (.int .i64 0) := by rw [hW3]; go_simp
  have v3_W3 : W3.cell? ⟨W2.heap.size, 3, none⟩ = some (.int .i64 0) := by rw [hW3]; go_simp
  have HS_W3 := Lib.hid (HS_W2.out.below (show Below W2.heap.size W2 W3 by rw [hW3]; exact (Below.refl _ _).alloc (Nat.le_refl _) _))
  clear HS_W2
  have znW3 : W2.heap.size < W3.heap.size := by rw [hzW3]; omega
  rw [← hW3]
  clear hW3 hzW3 BW2
  generalize W2.heap.size = nW3 at *
  go_at_call 10
  (with_reducible refine (best_bad _ _ _ _ (by omega) HS_W3.out HL.out).mono ?_)
  rintro e W4 ⟨rfl, hbW4⟩
  have a0_W4 : W4.cell? ⟨w.heap.size, 0, none⟩ = some (.int .i64 r) := (hbW4.cell (p := ⟨w.heap.size, _, none⟩) zW3_55).trans a0_W3
  have a1_W4 : W4.cell? ⟨w.heap.size, 1, none⟩ = some (.int .i64 c) := (hbW4.cell (p := ⟨w.heap.size, _, none⟩) zW3_55).trans a1_W3
  have a2_W4 : W4.cell? ⟨w.heap.size, 2, none⟩ = some (.int .i64 b) := (hbW4.cell (p := ⟨w.heap.size, _, none⟩) zW3_55).trans a2_W3
  have a3_W4 : W4.cell? ⟨w.heap.size, 3, none⟩ = some (.int .i64 p) := (hbW4.cell (p := ⟨w.heap.size, _, none⟩) zW3_55).trans a3_W3
  have e0_W4 : W4.cell? ⟨nb, 0, none⟩ = some (.int .i64 r2) := (hbW4.cell (p := ⟨nb, _, none⟩) zW3_57).trans e0_W3
  have e1_W4 : W4.cell? ⟨nb, 1, none⟩ = some (.int .i64 c2) := (hbW4.cell (p := ⟨nb, _, none⟩) zW3_57).trans e1_W3
  have e2_W4 : W4.cell? ⟨nb, 2, none⟩ = some (.int .i64 b2) := (hbW4.cell (p := ⟨nb, _, none⟩) zW3_57).trans e2_W3
  have e3_W4 : W4.cell? ⟨nb, 3, none⟩ = some (.int .i64 p2) := (hbW4.cell (p := ⟨nb, _, none⟩) zW3_57).trans e3_W3
  have v0_W4 : W4.cell? ⟨nW3, 0, none⟩ = some (.int .i64 0) := (hbW4.cell (p := ⟨nW3, _, none⟩) znW3).trans v0_W3
  have v1_W4 : W4.cell? ⟨nW3, 1, none⟩ = some (.int .i64 0) := (hbW4.cell (p := ⟨nW3, _, none⟩) znW3).trans v1_W3
  have v2_W4 : W4.cell? ⟨nW3, 2, none⟩ = some (.int .i64 0) := (hbW4.cell (p := ⟨nW3, _, none⟩) znW3).trans v2_W3
  have v3_W4 : W4.cell? ⟨nW3, 3, none⟩ = some (.int .i64 0) := (hbW4.cell (p := ⟨nW3, _, none⟩) znW3).trans v3_W3
  clear a0_W3 a1_W3 a2_W3 a3_W3 e0_W3 e1_W3 e2_W3 e3_W3 v0_W3 v1_W3 v2_W3 v3_W3
  have zW4_85 : w.heap.size < W4.heap.size := Nat.lt_of_lt_of_le zW3_55 hbW4.size
  clear zW3_55
  have zW4_87 : nb < W4.heap.size := Nat.lt_of_lt_of_le zW3_57 hbW4.size
  clear zW3_57
  have zW4_89 : nW3 < W4.heap.size := Nat.lt_of_lt_of_le znW3 hbW4.size
  clear znW3
  have HS_W4 := Lib.hid (HS_W3.out.below hbW4)
  clear HS_W3
  have BW4 : Below w.heap.size w W4 := BW3.trans (hbW4.mono BW3.size)
  clear hbW4 BW3
  go_wp2_with fail
  go_at_call 11
  (with_reducible refine (sort_bad _ _ _ _ (by omega) HS_W4.out HL.out).mono ?_)
  rintro e W5 ⟨rfl, hbW5⟩
  have a0_W5 : W5.cell? ⟨w.heap.size, 0, none⟩ = some (.int .i64 r) := (hbW5.cell (p := ⟨w.heap.size, _, none⟩) zW4_85).trans a0_W4
  have a1_W5 : W5.cell? ⟨w.heap.size, 1, none⟩ = some (.int .i64 c) := (hbW5.cell (p := ⟨w.heap.size, _, none⟩) zW4_85).trans a1_W4
  have a2_W5 : W5.cell? ⟨w.heap.size, 2, none⟩ = some (.int .i64 b) := (hbW5.cell (p := ⟨w.heap.size, _, none⟩) zW4_85).trans a2_W4
  have a3_W5 : W5.cell? ⟨w.heap.size, 3, none⟩ = some (.int .i64 p) := (hbW5.cell (p := ⟨w.heap.size, _, none⟩) zW4_85).trans a3_W4
  have e0_W5 : W5.cell? ⟨nb, 0, none⟩ = some (.int .i64 r2) := (hbW5.cell (p := ⟨nb, _, none⟩) zW4_87).trans e0_W4
  have e1_W5 : W5.cell? ⟨nb, 1, none⟩ = some (.int .i64 c2) := (hbW5.cell (p := ⟨nb, _, none⟩) zW4_87).trans e1_W4
  have e2_W5 : W5.cell? ⟨nb, 2, none⟩ = some (.int .i64 b2) := (hbW5.cell (p := ⟨nb, _, none⟩) zW4_87).trans e2_W4
  have e3_W5 : W5.cell? ⟨nb, 3, none⟩ = some (.int .i64 p2) := (hbW5.cell (p := ⟨nb, _, none⟩) zW4_87).trans e3_W4
  have v0_W5 : W5.cell? ⟨nW3, 0, none⟩ = some (.int .i64 0) := (hbW5.cell (p := ⟨nW3, _, none⟩) zW4_89).trans v0_W4
  have v1_W5 : W5.cell? ⟨nW3, 1, none⟩ = some (.int .i64 0) := (hbW5.cell (p := ⟨nW3, _, none⟩) zW4_89).trans v1_W4
  have v2_W5 : W5.cell? ⟨nW3, 2, none⟩ = some (.int .i64 0) := (hbW5.cell (p := ⟨nW3, _, none⟩) zW4_89).trans v2_W4
  have v3_W5 : W5.cell? ⟨nW3, 3, none⟩ = some (.int .i64 0) := (hbW5.cell (p := ⟨nW3, _, none⟩) zW4_89).trans v3_W4
  clear a0_W4 a1_W4 a2_W4 a3_W4 e0_W4 e1_W4 e2_W4 e3_W4 v0_W4 v1_W4 v2_W4 v3_W4
  have zW5_112 : w.heap.size < W5.heap.size := Nat.lt_of_lt_of_le zW4_85 hbW5.size
  clear zW4_85
  have zW5_114 : nb < W5.heap.size := Nat.lt_of_lt_of_le zW4_87 hbW5.size
  clear zW4_87
  have zW5_116 : nW3 < W5.heap.size := Nat.lt_of_lt_of_le zW4_89 hbW5.size
  clear zW4_89
  have HS_W5 := Lib.hid (HS_W4.out.below hbW5)
  clear HS_W4
  have BW5 : Below w.heap.size w W5 := BW4.trans (hbW5.mono BW4.size)
  clear hbW5 BW4
  go_wp2_with fail
  have K_a0 := cell_regrown a0_W5
  have K_a1 := cell_regrown a1_W5
  have K_a2 := cell_regrown a2_W5
  have K_a3 := cell_regrown a3_W5
  have K_e0 := cell_regrown e0_W5
  have K_e1 := cell_regrown e1_W5
  have K_e2 := cell_regrown e2_W5
  have K_e3 := cell_regrown e3_W5
  have K_v0 := cell_regrown v0_W5
  have K_v1 := cell_regrown v1_W5
  have K_v2 := cell_regrown v2_W5
  have K_v3 := cell_regrown v3_W5
  clear a0_W5 a1_W5 a2_W5 a3_W5 e0_W5 e1_W5 e2_W5 e3_W5 v0_W5 v1_W5 v2_W5 v3_W5
  have cC0 := fun (d : Nat) (os : Array Obj) => Calls.regrown_of (right_is r c b p _ HA.out (Go.Sort.grow (redrawn W5 d) os))
  have cC1 := fun (d : Nat) (os : Array Obj) => Calls.regrown_of (ref_right_is r c b p _ HA.out (Go.Sort.grow (redrawn W5 d) os))
  have cC2 := fun (d : Nat) (os : Array Obj) => Calls.regrown_of (alive_any (Go.Sort.grow (redrawn W5 d) os))
  refine wp_region_quiet_below (by kernel_rfl) (by kernel_rfl) ?_
  repeat (first | go_big_quiet_step (first | exact cC0 _ _ | exact cC1 _ _ | exact cC2 _ _) | quiet_step (first | exact cC0 _ _ | exact cC1 _ _ | exact cC2 _ _))
  refine wpQuiet_nil ?_
  intro _ hw'
  obtain ⟨⟨dq, osq⟩, hw''⟩ := hw'
  subst hw''
  have hbW6 := below_regrown W5 dq osq
  have a0_W6 := K_a0 dq osq
  have a1_W6 := K_a1 dq osq
  have a2_W6 := K_a2 dq osq
  have a3_W6 := K_a3 dq osq
  have e0_W6 := K_e0 dq osq
  have e1_W6 := K_e1 dq osq
  have e2_W6 := K_e2 dq osq
  have e3_W6 := K_e3 dq osq
  have v0_W6 := K_v0 dq osq
  have v1_W6 := K_v1 dq osq
  have v2_W6 := K_v2 dq osq
  have v3_W6 := K_v3 dq osq
  clear K_a0 K_a1 K_a2 K_a3 K_e0 K_e1 K_e2 K_e3 K_v0 K_v1 K_v2 K_v3 cC0 cC1 cC2 
  have zW6_159 : w.heap.size < (Go.Sort.grow (redrawn W5 dq) osq).heap.size := Nat.lt_of_lt_of_le zW5_112 hbW6.size
  clear zW5_112
  have zW6_161 : nb < (Go.Sort.grow (redrawn W5 dq) osq).heap.size := Nat.lt_of_lt_of_le zW5_114 hbW6.size
  clear zW5_114
  have zW6_163 : nW3 < (Go.Sort.grow (redrawn W5 dq) osq).heap.size := Nat.lt_of_lt_of_le zW5_116 hbW6.size
  clear zW5_116
  have HS_W6 := Lib.hid (HS_W5.out.below hbW6)
  clear HS_W5
  have BW6 : Below w.heap.size w (Go.Sort.grow (redrawn W5 dq) osq) := BW5.trans (hbW6.mono BW5.size)
  clear hbW6 BW5
  generalize Go.Sort.grow (redrawn W5 dq) osq = W6 at *
  go_wp2_with fail
  go_at_call 13
  (with_reducible refine (ref_right_is _ _ _ _ _ HA.out _).mono ?_)
  rintro e W7 ⟨rfl, hbW7⟩
  have a0_W7 : W7.cell? ⟨w.heap.size, 0, none⟩ = some (.int .i64 r) := (hbW7.cell (p := ⟨w.heap.size, _, none⟩) zW6_159).trans a0_W6
  have a1_W7 : W7.cell? ⟨w.heap.size, 1, none⟩ = some (.int .i64 c) := (hbW7.cell (p := ⟨w.heap.size, _, none⟩) zW6_159).trans a1_W6
  have a2_W7 : W7.cell? ⟨w.heap.size, 2, none⟩ = some (.int .i64 b) := (hbW7.cell (p := ⟨w.heap.size, _, none⟩) zW6_159).trans a2_W6
  have a3_W7 : W7.cell? ⟨w.heap.size, 3, none⟩ = some (.int .i64 p) := (hbW7.cell (p := ⟨w.heap.size, _, none⟩) zW6_159).trans a3_W6
  have e0_W7 : W7.cell? ⟨nb, 0, none⟩ = some (.int .i64 r2) := (hbW7.cell (p := ⟨nb, _, none⟩) zW6_161).trans e0_W6
  have e1_W7 : W7.cell? ⟨nb, 1, none⟩ = some (.int .i64 c2) := (hbW7.cell (p := ⟨nb, _, none⟩) zW6_161).trans e1_W6
  have e2_W7 : W7.cell? ⟨nb, 2, none⟩ = some (.int .i64 b2) := (hbW7.cell (p := ⟨nb, _, none⟩) zW6_161).trans e2_W6
  have e3_W7 : W7.cell? ⟨nb, 3, none⟩ = some (.int .i64 p2) := (hbW7.cell (p := ⟨nb, _, none⟩) zW6_161).trans e3_W6
  have v0_W7 : W7.cell? ⟨nW3, 0, none⟩ = some (.int .i64 0) := (hbW7.cell (p := ⟨nW3, _, none⟩) zW6_163).trans v0_W6
  have v1_W7 : W7.cell? ⟨nW3, 1, none⟩ = some (.int .i64 0) := (hbW7.cell (p := ⟨nW3, _, none⟩) zW6_163).trans v1_W6
  have v2_W7 : W7.cell? ⟨nW3, 2, none⟩ = some (.int .i64 0) := (hbW7.cell (p := ⟨nW3, _, none⟩) zW6_163).trans v2_W6
  have v3_W7 : W7.cell? ⟨nW3, 3, none⟩ = some (.int .i64 0) := (hbW7.cell (p := ⟨nW3, _, none⟩) zW6_163).trans v3_W6
  clear a0_W6 a1_W6 a2_W6 a3_W6 e0_W6 e1_W6 e2_W6 e3_W6 v0_W6 v1_W6 v2_W6 v3_W6
  have zW7_187 : w.heap.size < W7.heap.size := Nat.lt_of_lt_of_le zW6_159 hbW7.size
  clear zW6_159
  have zW7_189 : nb < W7.heap.size := Nat.lt_of_lt_of_le zW6_161 hbW7.size
  clear zW6_161
  have zW7_191 : nW3 < W7.heap.size := Nat.lt_of_lt_of_le zW6_163 hbW7.size
  clear zW6_163
  have HS_W7 := Lib.hid (HS_W6.out.below hbW7)
  clear HS_W6
  have BW7 : Below w.heap.size w W7 := BW6.trans (hbW7.mono BW6.size)
  clear hbW7 BW6
  go_wp2_with fail
  go_at_call 13
  (with_reducible refine (ref_right_is _ _ _ _ _ HB.out _).mono ?_)
  rintro e W8 ⟨rfl, hbW8⟩
  have a0_W8 : W8.cell? ⟨w.heap.size, 0, none⟩ = some (.int .i64 r) := (hbW8.cell (p := ⟨w.heap.size, _, none⟩) zW7_187).trans a0_W7
  have a1_W8 : W8.cell? ⟨w.heap.size, 1, none⟩ = some (.int .i64 c) := (hbW8.cell (p := ⟨w.heap.size, _, none⟩) zW7_187).trans a1_W7
  have a2_W8 : W8.cell? ⟨w.heap.size, 2, none⟩ = some (.int .i64 b) := (hbW8.cell (p := ⟨w.heap.size, _, none⟩) zW7_187).trans a2_W7
  have a3_W8 : W8.cell? ⟨w.heap.size, 3, none⟩ = some (.int .i64 p) := (hbW8.cell (p := ⟨w.heap.size, _, none⟩) zW7_187).trans a3_W7
  have e0_W8 : W8.cell? ⟨nb, 0, none⟩ = some (.int .i64 r2) := (hbW8.cell (p := ⟨nb, _, none⟩) zW7_189).trans e0_W7
  have e1_W8 : W8.cell? ⟨nb, 1, none⟩ = some (.int .i64 c2) := (hbW8.cell (p := ⟨nb, _, none⟩) zW7_189).trans e1_W7
  have e2_W8 : W8.cell? ⟨nb, 2, none⟩ = some (.int .i64 b2) := (hbW8.cell (p := ⟨nb, _, none⟩) zW7_189).trans e2_W7
  have e3_W8 : W8.cell? ⟨nb, 3, none⟩ = some (.int .i64 p2) := (hbW8.cell (p := ⟨nb, _, none⟩) zW7_189).trans e3_W7
  have v0_W8 : W8.cell? ⟨nW3, 0, none⟩ = some (.int .i64 0) := (hbW8.cell (p := ⟨nW3, _, none⟩) zW7_191).trans v0_W7
  have v1_W8 : W8.cell? ⟨nW3, 1, none⟩ = some (.int .i64 0) := (hbW8.cell (p := ⟨nW3, _, none⟩) zW7_191).trans v1_W7
  have v2_W8 : W8.cell? ⟨nW3, 2, none⟩ = some (.int .i64 0) := (hbW8.cell (p := ⟨nW3, _, none⟩) zW7_191).trans v2_W7
  have v3_W8 : W8.cell? ⟨nW3, 3, none⟩ = some (.int .i64 0) := (hbW8.cell (p := ⟨nW3, _, none⟩) zW7_191).trans v3_W7
  clear a0_W7 a1_W7 a2_W7 a3_W7 e0_W7 e1_W7 e2_W7 e3_W7 v0_W7 v1_W7 v2_W7 v3_W7
  have zW8_214 : w.heap.size < W8.heap.size := Nat.lt_of_lt_of_le zW7_187 hbW8.size
  clear zW7_187
  have zW8_216 : nb < W8.heap.size := Nat.lt_of_lt_of_le zW7_189 hbW8.size
  clear zW7_189
  have zW8_218 : nW3 < W8.heap.size := Nat.lt_of_lt_of_le zW7_191 hbW8.size
  clear zW7_191
  have HS_W8 := Lib.hid (HS_W7.out.below hbW8)
  clear HS_W7
  have BW8 : Below w.heap.size w W8 := BW7.trans (hbW8.mono BW7.size)
  clear hbW8 BW7
  go_wp2_with fail
  go_at_call 15
  (with_reducible refine (ref_better_any _ _ _ _ _ _ _ _ _).mono ?_)
  rintro e W9 ⟨rfl, hbW9⟩
  have a0_W9 : W9.cell? ⟨w.heap.size, 0, none⟩ = some (.int .i64 r) := (hbW9.cell (p := ⟨w.heap.size, _, none⟩) zW8_214).trans a0_W8
  have a1_W9 : W9.cell? ⟨w.heap.size, 1, none⟩ = some (.int .i64 c) := (hbW9.cell (p := ⟨w.heap.size, _, none⟩) zW8_214).trans a1_W8
  have a2_W9 : W9.cell? ⟨w.heap.size, 2, none⟩ = some (.int .i64 b) := (hbW9.cell (p := ⟨w.heap.size, _, none⟩) zW8_214).trans a2_W8
  have a3_W9 : W9.cell? ⟨w.heap.size, 3, none⟩ = some (.int .i64 p) := (hbW9.cell (p := ⟨w.heap.size, _, none⟩) zW8_214).trans a3_W8
  have e0_W9 : W9.cell? ⟨nb, 0, none⟩ = some (.int .i64 r2) := (hbW9.cell (p := ⟨nb, _, none⟩) zW8_216).trans e0_W8
  have e1_W9 : W9.cell? ⟨nb, 1, none⟩ = some (.int .i64 c2) := (hbW9.cell (p := ⟨nb, _, none⟩) zW8_216).trans e1_W8
  have e2_W9 : W9.cell? ⟨nb, 2, none⟩ = some (.int .i64 b2) := (hbW9.cell (p := ⟨nb, _, none⟩) zW8_216).trans e2_W8
  have e3_W9 : W9.cell? ⟨nb, 3, none⟩ = some (.int .i64 p2) := (hbW9.cell (p := ⟨nb, _, none⟩) zW8_216).trans e3_W8
  have v0_W9 : W9.cell? ⟨nW3, 0, none⟩ = some (.int .i64 0) := (hbW9.cell (p := ⟨nW3, _, none⟩) zW8_218).trans v0_W8
  have v1_W9 : W9.cell? ⟨nW3, 1, none⟩ = some (.int .i64 0) := (hbW9.cell (p := ⟨nW3, _, none⟩) zW8_218).trans v1_W8
  have v2_W9 : W9.cell? ⟨nW3, 2, none⟩ = some (.int .i64 0) := (hbW9.cell (p := ⟨nW3, _, none⟩) zW8_218).trans v2_W8
  have v3_W9 : W9.cell? ⟨nW3, 3, none⟩ = some (.int .i64 0) := (hbW9.cell (p := ⟨nW3, _, none⟩) zW8_218).trans v3_W8
  clear a0_W8 a1_W8 a2_W8 a3_W8 e0_W8 e1_W8 e2_W8 e3_W8 v0_W8 v1_W8 v2_W8 v3_W8
  have zW9_241 : w.heap.size < W9.heap.size := Nat.lt_of_lt_of_le zW8_214 hbW9.size
  clear zW8_214
  have zW9_243 : nb < W9.heap.size := Nat.lt_of_lt_of_le zW8_216 hbW9.size
  clear zW8_216
  have zW9_245 : nW3 < W9.heap.size := Nat.lt_of_lt_of_le zW8_218 hbW9.size
  clear zW8_218
  have HS_W9 := Lib.hid (HS_W8.out.below hbW9)
  clear HS_W8
  have BW9 : Below w.heap.size w W9 := BW8.trans (hbW9.mono BW8.size)
  clear hbW9 BW8
  go_wp2_with fail
  go_at_call 13
  (with_reducible refine (ref_right_is _ _ _ _ _ HA.out _).mono ?_)
  rintro e W10 ⟨rfl, hbW10⟩
  have a0_W10 : W10.cell? ⟨w.heap.size, 0, none⟩ = some (.int .i64 r) := (hbW10.cell (p := ⟨w.heap.size, _, none⟩) zW9_241).trans a0_W9
  have a1_W10 : W10.cell? ⟨w.heap.size, 1, none⟩ = some (.int .i64 c) := (hbW10.cell (p := ⟨w.heap.size, _, none⟩) zW9_241).trans a1_W9
  have a2_W10 : W10.cell? ⟨w.heap.size, 2, none⟩ = some (.int .i64 b) := (hbW10.cell (p := ⟨w.heap.size, _, none⟩) zW9_241).trans a2_W9
  have a3_W10 : W10.cell? ⟨w.heap.size, 3, none⟩ = some (.int .i64 p) := (hbW10.cell (p := ⟨w.heap.size, _, none⟩) zW9_241).trans a3_W9
  have e0_W10 : W10.cell? ⟨nb, 0, none⟩ = some (.int .i64 r2) := (hbW10.cell (p := ⟨nb, _, none⟩) zW9_243).trans e0_W9
  have e1_W10 : W10.cell? ⟨nb, 1, none⟩ = some (.int .i64 c2) := (hbW10.cell (p := ⟨nb, _, none⟩) zW9_243).trans e1_W9
  have e2_W10 : W10.cell? ⟨nb, 2, none⟩ = some (.int .i64 b2) := (hbW10.cell (p := ⟨nb, _, none⟩) zW9_243).trans e2_W9
  have e3_W10 : W10.cell? ⟨nb, 3, none⟩ = some (.int .i64 p2) := (hbW10.cell (p := ⟨nb, _, none⟩) zW9_243).trans e3_W9
  have v0_W10 : W10.cell? ⟨nW3, 0, none⟩ = some (.int .i64 0) := (hbW10.cell (p := ⟨nW3, _, none⟩) zW9_245).trans v0_W9
  have v1_W10 : W10.cell? ⟨nW3, 1, none⟩ = some (.int .i64 0) := (hbW10.cell (p := ⟨nW3, _, none⟩) zW9_245).trans v1_W9
  have v2_W10 : W10.cell? ⟨nW3, 2, none⟩ = some (.int .i64 0) := (hbW10.cell (p := ⟨nW3, _, none⟩) zW9_245).trans v2_W9
  have v3_W10 : W10.cell? ⟨nW3, 3, none⟩ = some (.int .i64 0) := (hbW10.cell (p := ⟨nW3, _, none⟩) zW9_245).trans v3_W9
  clear a0_W9 a1_W9 a2_W9 a3_W9 e0_W9 e1_W9 e2_W9 e3_W9 v0_W9 v1_W9 v2_W9 v3_W9
  have zW10_268 : w.heap.size < W10.heap.size := Nat.lt_of_lt_of_le zW9_241 hbW10.size
  clear zW9_241
  have zW10_270 : nb < W10.heap.size := Nat.lt_of_lt_of_le zW9_243 hbW10.size
  clear zW9_243
  have zW10_272 : nW3 < W10.heap.size := Nat.lt_of_lt_of_le zW9_245 hbW10.size
  clear zW9_245
  have HS_W10 := Lib.hid (HS_W9.out.below hbW10)
  clear HS_W9
  have BW10 : Below w.heap.size w W10 := BW9.trans (hbW10.mono BW9.size)
  clear hbW10 BW9
  go_wp2_with fail
  go_at_call 17
  (with_reducible refine (ref_all_is _ _ _ _ _ (by omega) HS_W10.out HL.out).mono ?_)
  rintro e W11 ⟨rfl, hbW11⟩
  have a0_W11 : W11.cell? ⟨w.heap.size, 0, none⟩ = some (.int .i64 r) := (hbW11.cell (p := ⟨w.heap.size, _, none⟩) zW10_268).trans a0_W10
  have a1_W11 : W11.cell? ⟨w.heap.size, 1, none⟩ = some (.int .i64 c) := (hbW11.cell (p := ⟨w.heap.size, _, none⟩) zW10_268).trans a1_W10
  have a2_W11 : W11.cell? ⟨w.heap.size, 2, none⟩ = some (.int .i64 b) := (hbW11.cell (p := ⟨w.heap.size, _, none⟩) zW10_268).trans a2_W10
  have a3_W11 : W11.cell? ⟨w.heap.size, 3, none⟩ = some (.int .i64 p) := (hbW11.cell (p := ⟨w.heap.size, _, none⟩) zW10_268).trans a3_W10
  have e0_W11 : W11.cell? ⟨nb, 0, none⟩ = some (.int .i64 r2) := (hbW11.cell (p := ⟨nb, _, none⟩) zW10_270).trans e0_W10
  have e1_W11 : W11.cell? ⟨nb, 1, none⟩ = some (.int .i64 c2) := (hbW11.cell (p := ⟨nb, _, none⟩) zW10_270).trans e1_W10
  have e2_W11 : W11.cell? ⟨nb, 2, none⟩ = some (.int .i64 b2) := (hbW11.cell (p := ⟨nb, _, none⟩) zW10_270).trans e2_W10
  have e3_W11 : W11.cell? ⟨nb, 3, none⟩ = some (.int .i64 p2) := (hbW11.cell (p := ⟨nb, _, none⟩) zW10_270).trans e3_W10
  have v0_W11 : W11.cell? ⟨nW3, 0, none⟩ = some (.int .i64 0) := (hbW11.cell (p := ⟨nW3, _, none⟩) zW10_272).trans v0_W10
  have v1_W11 : W11.cell? ⟨nW3, 1, none⟩ = some (.int .i64 0) := (hbW11.cell (p := ⟨nW3, _, none⟩) zW10_272).trans v1_W10
  have v2_W11 : W11.cell? ⟨nW3, 2, none⟩ = some (.int .i64 0) := (hbW11.cell (p := ⟨nW3, _, none⟩) zW10_272).trans v2_W10
  have v3_W11 : W11.cell? ⟨nW3, 3, none⟩ = some (.int .i64 0) := (hbW11.cell (p := ⟨nW3, _, none⟩) zW10_272).trans v3_W10
  clear a0_W10 a1_W10 a2_W10 a3_W10 e0_W10 e1_W10 e2_W10 e3_W10 v0_W10 v1_W10 v2_W10 v3_W10
  have zW11_295 : w.heap.size < W11.heap.size := Nat.lt_of_lt_of_le zW10_268 hbW11.size
  clear zW10_268
  have zW11_297 : nb < W11.heap.size := Nat.lt_of_lt_of_le zW10_270 hbW11.size
  clear zW10_270
  have zW11_299 : nW3 < W11.heap.size := Nat.lt_of_lt_of_le zW10_272 hbW11.size
  clear zW10_272
  have HS_W11 := Lib.hid (HS_W10.out.below hbW11)
  clear HS_W10
  have BW11 : Below w.heap.size w W11 := BW10.trans (hbW11.mono BW10.size)
  clear hbW11 BW10
  clear a0_W11
  clear a1_W11
  clear a2_W11
  clear a3_W11
  clear e0_W11
  clear e1_W11
  clear e2_W11
  clear e3_W11
  clear v0_W11
  clear v1_W11
  clear v2_W11
  clear v3_W11
  go_wp2_with fail
  go_ret
  exact ⟨rfl, BW11⟩

set_option maxHeartbeats 8000000 in
theorem tells_yyh_bad (r c b p r2 c2 b2 p2 n : Int) (A : Option Addr) (n0 cap : Nat) (w : World) (ha : okV r c b p = true) (hb : okV r2 c2 b2 p2 = true) (hn0 : 0 ≤ n) (hn : 2147483647 < n) (l : List V) (hl : l.length ≤ 60) (hlc : l.length ≤ cap) (hS : SlV w A l) (hok : l.all V.ok = false) (hfew : ∀ w, Calls Try.prog 7 #[.slice A n0 cap] w fun e w' => e = .returned (.slice A l.length cap) ∧ w = w') :
    Calls Try.prog 3 #[vv r c b p, vv r2 c2 b2 p2, .int .i64 n, .slice A n0 cap] w fun e w' => e = .returned (.bool true) ∧ Below w.heap.size w w' := by
  have HA := Lib.hid ha
  have HB := Lib.hid hb
  have HC : Hid (inB n 2147483647 = false) := Lib.hid (by simp [inB]; omega)
  have HS := Lib.hid hS
  have HL := Lib.hid hok
  clear hS hok
  have HF := Lib.hid hfew
  clear hfew ha hb
  go_enter Try.func3, Try.ntmps3
  go_wp2_with fail
  go_at_call 7
  (with_reducible refine (HF.out _).mono ?_)
  rintro e w' ⟨rfl, rfl⟩
  obtain ⟨W0, hW0⟩ : ∃ W0, W0 = (w.alloc (.cells #[.int .i64 r, .int .i64 c, .int .i64 b, .int .i64 p] 23)).alloc (.cells #[.int .i64 r2, .int .i64 c2, .int .i64 b2, .int .i64 p2] 23) := ⟨_, rfl⟩
  have B0 : Below w.heap.size w W0 := by rw [hW0]; exact ((Below.refl _ _).alloc (Nat.le_refl _) _).alloc (by simp) _
  have za : w.heap.size < W0.heap.size := by rw [hW0]; simp; omega
  have zb : w.heap.size + 1 < W0.heap.size := by rw [hW0]; simp
  have a0 : W0.cell? ⟨w.heap.size, 0, none⟩ = some (.int .i64 r) := by rw [hW0]; go_simp
  have a1 : W0.cell? ⟨w.heap.size, 1, none⟩ = some (.int .i64 c) := by rw [hW0]; go_simp
  have a2 : W0.cell? ⟨w.heap.size, 2, none⟩ = some (.int .i64 b) := by rw [hW0]; go_simp
  have a3 : W0.cell? ⟨w.heap.size, 3, none⟩ = some (.int .i64 p) := by rw [hW0]; go_simp
  have e0 : W0.cell? ⟨w.heap.size + 1, 0, none⟩ = some (.int .i64 r2) := by rw [hW0]; go_simp
  have e1 : W0.cell? ⟨w.heap.size + 1, 1, none⟩ = some (.int .i64 c2) := by rw [hW0]; go_simp
  have e2 : W0.cell? ⟨w.heap.size + 1, 2, none⟩ = some (.int .i64 b2) := by rw [hW0]; go_simp
  have e3 : W0.cell? ⟨w.heap.size + 1, 3, none⟩ = some (.int .i64 p2) := by rw [hW0]; go_simp
  have HS0 := Lib.hid (HS.out.below B0)
  rw [← hW0]
  clear hW0 HS
  generalize w.heap.size + 1 = nb at *
  go_wp2_with fail
  go_at_call 8
  (with_reducible refine (better_good _ _ _ _ _ _ _ _ _ HA.out HB.out).mono ?_)
  rintro e W1 ⟨rfl, hbW1⟩
  have a0_W1 : W1.cell? ⟨w.heap.size, 0, none⟩ = some (.int .i64 r) := (hbW1.cell (p := ⟨w.heap.size, _, none⟩) za).trans a0
  have a1_W1 : W1.cell? ⟨w.heap.size, 1, none⟩ = some (.int .i64 c) := (hbW1.cell (p := ⟨w.heap.size, _, none⟩) za).trans a1
  have a2_W1 : W1.cell? ⟨w.heap.size, 2, none⟩ = some (.int .i64 b) := (hbW1.cell (p := ⟨w.heap.size, _, none⟩) za).trans a2
  have a3_W1 : W1.cell? ⟨w.heap.size, 3, none⟩ = some (.int .i64 p) := (hbW1.cell (p := ⟨w.heap.size, _, none⟩) za).trans a3
  have e0_W1 : W1.cell? ⟨nb, 0, none⟩ = some (.int .i64 r2) := (hbW1.cell (p := ⟨nb, _, none⟩) zb).trans e0
  have e1_W1 : W1.cell? ⟨nb, 1, none⟩ = some (.int .i64 c2) := (hbW1.cell (p := ⟨nb, _, none⟩) zb).trans e1
  have e2_W1 : W1.cell? ⟨nb, 2, none⟩ = some (.int .i64 b2) := (hbW1.cell (p := ⟨nb, _, none⟩) zb).trans e2
  have e3_W1 : W1.cell? ⟨nb, 3, none⟩ = some (.int .i64 p2) := (hbW1.cell (p := ⟨nb, _, none⟩) zb).trans e3
  clear a0 a1 a2 a3 e0 e1 e2 e3
  have zW1_13 : w.heap.size < W1.heap.size := Nat.lt_of_lt_of_le za hbW1.size
  clear za
  have zW1_15 : nb < W1.heap.size := Nat.lt_of_lt_of_le zb hbW1.size
  clear zb
  have HS_W1 := Lib.hid (HS0.out.below hbW1)
  clear HS0
  have BW1 : Below w.heap.size w W1 := B0.trans (hbW1.mono B0.size)
  clear hbW1 B0
  go_wp2_with fail
  go_at_call 9
  (with_reducible refine (far_bad2 _ _ _ _ _ _ HA.out HC.out).mono ?_)
  rintro e W2 ⟨rfl, hbW2⟩
  have a0_W2 : W2.cell? ⟨w.heap.size, 0, none⟩ = some (.int .i64 r) := (hbW2.cell (p := ⟨w.heap.size, _, none⟩) zW1_13).trans a0_W1
  have a1_W2 : W2.cell? ⟨w.heap.size, 1, none⟩ = some (.int .i64 c) := (hbW2.cell (p := ⟨w.heap.size, _, none⟩) zW1_13).trans a1_W1
  have a2_W2 : W2.cell? ⟨w.heap.size, 2, none⟩ = some (.int .i64 b) := (hbW2.cell (p := ⟨w.heap.size, _, none⟩) zW1_13).trans a2_W1
  have a3_W2 : W2.cell? ⟨w.heap.size, 3, none⟩ = some (.int .i64 p) := (hbW2.cell (p := ⟨w.heap.size, _, none⟩) zW1_13).trans a3_W1
  have e0_W2 : W2.cell? ⟨nb, 0, none⟩ = some (.int .i64 r2) := (hbW2.cell (p := ⟨nb, _, none⟩) zW1_15).trans e0_W1
  have e1_W2 : W2.cell? ⟨nb, 1, none⟩ = some (.int .i64 c2) := (hbW2.cell (p := ⟨nb, _, none⟩) zW1_15).trans e1_W1
  have e2_W2 : W2.cell? ⟨nb, 2, none⟩ = some (.int .i64 b2) := (hbW2.cell (p := ⟨nb, _, none⟩) zW1_15).trans e2_W1
  have e3_W2 : W2.cell? ⟨nb, 3, none⟩ = some (.int .i64 p2) := (hbW2.cell (p := ⟨nb, _, none⟩) zW1_15).trans e3_W1
  clear a0_W1 a1_W1 a2_W1 a3_W1 e0_W1 e1_W1 e2_W1 e3_W1
  have zW2_34 : w.heap.size < W2.heap.size := Nat.lt_of_lt_of_le zW1_13 hbW2.size
  clear zW1_13
  have zW2_36 : nb < W2.heap.size := Nat.lt_of_lt_of_le zW1_15 hbW2.size
  clear zW1_15
  have HS_W2 := Lib.hid (HS_W1.out.below hbW2)
  clear HS_W1
  have BW2 : Below w.heap.size w W2 := BW1.trans (hbW2.mono BW1.size)
  clear hbW2 BW1
  go_wp2_with fail
  obtain ⟨W3, hW3⟩ : ∃ W3, W3 = W2.alloc (.cells #[.int .i64 0, .int .i64 0, .int .i64 0, .int .i64 0] 23) := ⟨_, rfl⟩
  have BW3 : Below w.heap.size w W3 := by rw [hW3]; exact BW2.alloc BW2.size _
  have a0_W3 : W3.cell? ⟨w.heap.size, 0, none⟩ = some (.int .i64 r) := by rw [hW3, World.cell?_alloc_lt _ _ _ (show w.heap.size < W2.heap.size from zW2_34)]; exact a0_W2
  have a1_W3 : W3.cell? ⟨w.heap.size, 1, none⟩ = some (.int .i64 c) := by rw [hW3, World.cell?_alloc_lt _ _ _ (show w.heap.size < W2.heap.size from zW2_34)]; exact a1_W2
  have a2_W3 : W3.cell? ⟨w.heap.size, 2, none⟩ = some (.int .i64 b) := by rw [hW3, World.cell?_alloc_lt _ _ _ (show w.heap.size < W2.heap.size from zW2_34)]; exact a2_W2
  have a3_W3 : W3.cell? ⟨w.heap.size, 3, none⟩ = some (.int .i64 p) := by rw [hW3, World.cell?_alloc_lt _ _ _ (show w.heap.size < W2.heap.size from zW2_34)]; exact a3_W2
  have e0_W3 : W3.cell? ⟨nb, 0, none⟩ = some (.int .i64 r2) := by rw [hW3, World.cell?_alloc_lt _ _ _ (show nb < W2.heap.size from zW2_36)]; exact e0_W2
  have e1_W3 : W3.cell? ⟨nb, 1, none⟩ = some (.int .i64 c2) := by rw [hW3, World.cell?_alloc_lt _ _ _ (show nb < W2.heap.size from zW2_36)]; exact e1_W2
  have e2_W3 : W3.cell? ⟨nb, 2, none⟩ = some (.int .i64 b2) := by rw [hW3, World.cell?_alloc_lt _ _ _ (show nb < W2.heap.size from zW2_36)]; exact e2_W2
  have e3_W3 : W3.cell? ⟨nb, 3, none⟩ = some (.int .i64 p2) := by rw [hW3, World.cell?_alloc_lt _ _ _ (show nb < W2.heap.size from zW2_36)]; exact e3_W2
  clear a0_W2 a1_W2 a2_W2 a3_W2 e0_W2 e1_W2 e2_W2 e3_W2
  have hzW3 : W3.heap.size = W2.heap.size + 1 := by rw [hW3]; simp
  have zW3_55 : w.heap.size < W3.heap.size := by rw [hzW3]; have := zW2_34; omega
  clear zW2_34
  have zW3_57 : nb < W3.heap.size := by rw [hzW3]; have := zW2_36; omega
  clear zW2_36
  have v0_W3 : W3.cell? ⟨W2.heap.size, 0, none⟩ = some (.int .i64 0) := by rw [hW3]; go_simp
  have v1_W3 : W3.cell? ⟨W2.heap.size, 1, none⟩ = some (.int .i64 0) := by rw [hW3]; go_simp
  have v2_W3 : W3.cell? ⟨W2.heap.size, 2, none⟩ = some (.int .i64 0) := by rw [hW3]; go_simp
  have v3_W3 : W3.cell? ⟨W2.heap.size, 3, none⟩ = some (.int .i64 0) := by rw [hW3]; go_simp
  have HS_W3 := Lib.hid (HS_W2.out.below (show Below W2.heap.size W2 W3 by rw [hW3]; exact (Below.refl _ _).alloc (Nat.le_refl _) _))
  clear HS_W2
  have znW3 : W2.heap.size < W3.heap.size := by rw [hzW3]; omega
  rw [← hW3]
  clear hW3 hzW3 BW2
  generalize W2.heap.size = nW3 at *
  go_at_call 10
  (with_reducible refine (best_bad _ _ _ _ (by omega) HS_W3.out HL.out).mono ?_)
  rintro e W4 ⟨rfl, hbW4⟩
  have a0_W4 : W4.cell? ⟨w.heap.size, 0, none⟩ = some (.int .i64 r) := (hbW4.cell (p := ⟨w.heap.size, _, none⟩) zW3_55).trans a0_W3
  have a1_W4 : W4.cell? ⟨w.heap.size, 1, none⟩ = some (.int .i64 c) := (hbW4.cell (p := ⟨w.heap.size, _, none⟩) zW3_55).trans a1_W3
  have a2_W4 : W4.cell? ⟨w.heap.size, 2, none⟩ = some (.int .i64 b) := (hbW4.cell (p := ⟨w.heap.size, _, none⟩) zW3_55).trans a2_W3
  have a3_W4 : W4.cell? ⟨w.heap.size, 3, none⟩ = some (.int .i64 p) := (hbW4.cell (p := ⟨w.heap.size, _, none⟩) zW3_55).trans a3_W3
  have e0_W4 : W4.cell? ⟨nb, 0, none⟩ = some (.int .i64 r2) := (hbW4.cell (p := ⟨nb, _, none⟩) zW3_57).trans e0_W3
  have e1_W4 : W4.cell? ⟨nb, 1, none⟩ = some (.int .i64 c2) := (hbW4.cell (p := ⟨nb, _, none⟩) zW3_57).trans e1_W3
  have e2_W4 : W4.cell? ⟨nb, 2, none⟩ = some (.int .i64 b2) := (hbW4.cell (p := ⟨nb, _, none⟩) zW3_57).trans e2_W3
  have e3_W4 : W4.cell? ⟨nb, 3, none⟩ = some (.int .i64 p2) := (hbW4.cell (p := ⟨nb, _, none⟩) zW3_57).trans e3_W3
  have v0_W4 : W4.cell? ⟨nW3, 0, none⟩ = some (.int .i64 0) := (hbW4.cell (p := ⟨nW3, _, none⟩) znW3).trans v0_W3
  have v1_W4 : W4.cell? ⟨nW3, 1, none⟩ = some (.int .i64 0) := (hbW4.cell (p := ⟨nW3, _, none⟩) znW3).trans v1_W3
  have v2_W4 : W4.cell? ⟨nW3, 2, none⟩ = some (.int .i64 0) := (hbW4.cell (p := ⟨nW3, _, none⟩) znW3).trans v2_W3
  have v3_W4 : W4.cell? ⟨nW3, 3, none⟩ = some (.int .i64 0) := (hbW4.cell (p := ⟨nW3, _, none⟩) znW3).trans v3_W3
  clear a0_W3 a1_W3 a2_W3 a3_W3 e0_W3 e1_W3 e2_W3 e3_W3 v0_W3 v1_W3 v2_W3 v3_W3
  have zW4_85 : w.heap.size < W4.heap.size := Nat.lt_of_lt_of_le zW3_55 hbW4.size
  clear zW3_55
  have zW4_87 : nb < W4.heap.size := Nat.lt_of_lt_of_le zW3_57 hbW4.size
  clear zW3_57
  have zW4_89 : nW3 < W4.heap.size := Nat.lt_of_lt_of_le znW3 hbW4.size
  clear znW3
  have HS_W4 := Lib.hid (HS_W3.out.below hbW4)
  clear HS_W3
  have BW4 : Below w.heap.size w W4 := BW3.trans (hbW4.mono BW3.size)
  clear hbW4 BW3
  go_wp2_with fail
  go_at_call 11
  (with_reducible refine (sort_bad _ _ _ _ (by omega) HS_W4.out HL.out).mono ?_)
  rintro e W5 ⟨rfl, hbW5⟩
  have a0_W5 : W5.cell? ⟨w.heap.size, 0, none⟩ = some (.int .i64 r) := (hbW5.cell (p := ⟨w.heap.size, _, none⟩) zW4_85).trans a0_W4
  have a1_W5 : W5.cell? ⟨w.heap.size, 1, none⟩ = some (.int .i64 c) := (hbW5.cell (p := ⟨w.heap.size, _, none⟩) zW4_85).trans a1_W4
  have a2_W5 : W5.cell? ⟨w.heap.size, 2, none⟩ = some (.int .i64 b) := (hbW5.cell (p := ⟨w.heap.size, _, none⟩) zW4_85).trans a2_W4
  have a3_W5 : W5.cell? ⟨w.heap.size, 3, none⟩ = some (.int .i64 p) := (hbW5.cell (p := ⟨w.heap.size, _, none⟩) zW4_85).trans a3_W4
  have e0_W5 : W5.cell? ⟨nb, 0, none⟩ = some (.int .i64 r2) := (hbW5.cell (p := ⟨nb, _, none⟩) zW4_87).trans e0_W4
  have e1_W5 : W5.cell? ⟨nb, 1, none⟩ = some (.int .i64 c2) := (hbW5.cell (p := ⟨nb, _, none⟩) zW4_87).trans e1_W4
  have e2_W5 : W5.cell? ⟨nb, 2, none⟩ = some (.int .i64 b2) := (hbW5.cell (p := ⟨nb, _, none⟩) zW4_87).trans e2_W4
  have e3_W5 : W5.cell? ⟨nb, 3, none⟩ = some (.int .i64 p2) := (hbW5.cell (p := ⟨nb, _, none⟩) zW4_87).trans e3_W4
  have v0_W5 : W5.cell? ⟨nW3, 0, none⟩ = some (.int .i64 0) := (hbW5.cell (p := ⟨nW3, _, none⟩) zW4_89).trans v0_W4
  have v1_W5 : W5.cell? ⟨nW3, 1, none⟩ = some (.int .i64 0) := (hbW5.cell (p := ⟨nW3, _, none⟩) zW4_89).trans v1_W4
  have v2_W5 : W5.cell? ⟨nW3, 2, none⟩ = some (.int .i64 0) := (hbW5.cell (p := ⟨nW3, _, none⟩) zW4_89).trans v2_W4
  have v3_W5 : W5.cell? ⟨nW3, 3, none⟩ = some (.int .i64 0) := (hbW5.cell (p := ⟨nW3, _, none⟩) zW4_89).trans v3_W4
  clear a0_W4 a1_W4 a2_W4 a3_W4 e0_W4 e1_W4 e2_W4 e3_W4 v0_W4 v1_W4 v2_W4 v3_W4
  have zW5_112 : w.heap.size < W5.heap.size := Nat.lt_of_lt_of_le zW4_85 hbW5.size
  clear zW4_85
  have zW5_114 : nb < W5.heap.size := Nat.lt_of_lt_of_le zW4_87 hbW5.size
  clear zW4_87
  have zW5_116 : nW3 < W5.heap.size := Nat.lt_of_lt_of_le zW4_89 hbW5.size
  clear zW4_89
  have HS_W5 := Lib.hid (HS_W4.out.below hbW5)
  clear HS_W4
  have BW5 : Below w.heap.size w W5 := BW4.trans (hbW5.mono BW4.size)
  clear hbW5 BW4
  go_wp2_with fail
  have K_a0 := cell_regrown a0_W5
  have K_a1 := cell_regrown a1_W5
  have K_a2 := cell_regrown a2_W5
  have K_a3 := cell_regrown a3_W5
  have K_e0 := cell_regrown e0_W5
  have K_e1 := cell_regrown e1_W5
  have K_e2 := cell_regrown e2_W5
  have K_e3 := cell_regrown e3_W5
  have K_v0 := cell_regrown v0_W5
  have K_v1 := cell_regrown v1_W5
  have K_v2 := cell_regrown v2_W5
  have K_v3 := cell_regrown v3_W5
  clear a0_W5 a1_W5 a2_W5 a3_W5 e0_W5 e1_W5 e2_W5 e3_W5 v0_W5 v1_W5 v2_W5 v3_W5
  have cC0 := fun (d : Nat) (os : Array Obj) => Calls.regrown_of (right_is r c b p _ HA.out (Go.Sort.grow (redrawn W5 d) os))
  have cC1 := fun (d : Nat) (os : Array Obj) => Calls.regrown_of (ref_right_is r c b p _ HA.out (Go.Sort.grow (redrawn W5 d) os))
  have cC2 := fun (d : Nat) (os : Array Obj) => Calls.regrown_of (alive_any (Go.Sort.grow (redrawn W5 d) os))
  refine wp_region_quiet_below (by kernel_rfl) (by kernel_rfl) ?_
  repeat (first | go_big_quiet_step (first | exact cC0 _ _ | exact cC1 _ _ | exact cC2 _ _) | quiet_step (first | exact cC0 _ _ | exact cC1 _ _ | exact cC2 _ _))
  refine wpQuiet_nil ?_
  intro _ hw'
  obtain ⟨⟨dq, osq⟩, hw''⟩ := hw'
  subst hw''
  have hbW6 := below_regrown W5 dq osq
  have a0_W6 := K_a0 dq osq
  have a1_W6 := K_a1 dq osq
  have a2_W6 := K_a2 dq osq
  have a3_W6 := K_a3 dq osq
  have e0_W6 := K_e0 dq osq
  have e1_W6 := K_e1 dq osq
  have e2_W6 := K_e2 dq osq
  have e3_W6 := K_e3 dq osq
  have v0_W6 := K_v0 dq osq
  have v1_W6 := K_v1 dq osq
  have v2_W6 := K_v2 dq osq
  have v3_W6 := K_v3 dq osq
  clear K_a0 K_a1 K_a2 K_a3 K_e0 K_e1 K_e2 K_e3 K_v0 K_v1 K_v2 K_v3 cC0 cC1 cC2 
  have zW6_159 : w.heap.size < (Go.Sort.grow (redrawn W5 dq) osq).heap.size := Nat.lt_of_lt_of_le zW5_112 hbW6.size
  clear zW5_112
  have zW6_161 : nb < (Go.Sort.grow (redrawn W5 dq) osq).heap.size := Nat.lt_of_lt_of_le zW5_114 hbW6.size
  clear zW5_114
  have zW6_163 : nW3 < (Go.Sort.grow (redrawn W5 dq) osq).heap.size := Nat.lt_of_lt_of_le zW5_116 hbW6.size
  clear zW5_116
  have HS_W6 := Lib.hid (HS_W5.out.below hbW6)
  clear HS_W5
  have BW6 : Below w.heap.size w (Go.Sort.grow (redrawn W5 dq) osq) := BW5.trans (hbW6.mono BW5.size)
  clear hbW6 BW5
  generalize Go.Sort.grow (redrawn W5 dq) osq = W6 at *
  go_wp2_with fail
  go_at_call 13
  (with_reducible refine (ref_right_is _ _ _ _ _ HA.out _).mono ?_)
  rintro e W7 ⟨rfl, hbW7⟩
  have a0_W7 : W7.cell? ⟨w.heap.size, 0, none⟩ = some (.int .i64 r) := (hbW7.cell (p := ⟨w.heap.size, _, none⟩) zW6_159).trans a0_W6
  have a1_W7 : W7.cell? ⟨w.heap.size, 1, none⟩ = some (.int .i64 c) := (hbW7.cell (p := ⟨w.heap.size, _, none⟩) zW6_159).trans a1_W6
  have a2_W7 : W7.cell? ⟨w.heap.size, 2, none⟩ = some (.int .i64 b) := (hbW7.cell (p := ⟨w.heap.size, _, none⟩) zW6_159).trans a2_W6
  have a3_W7 : W7.cell? ⟨w.heap.size, 3, none⟩ = some (.int .i64 p) := (hbW7.cell (p := ⟨w.heap.size, _, none⟩) zW6_159).trans a3_W6
  have e0_W7 : W7.cell? ⟨nb, 0, none⟩ = some (.int .i64 r2) := (hbW7.cell (p := ⟨nb, _, none⟩) zW6_161).trans e0_W6
  have e1_W7 : W7.cell? ⟨nb, 1, none⟩ = some (.int .i64 c2) := (hbW7.cell (p := ⟨nb, _, none⟩) zW6_161).trans e1_W6
  have e2_W7 : W7.cell? ⟨nb, 2, none⟩ = some (.int .i64 b2) := (hbW7.cell (p := ⟨nb, _, none⟩) zW6_161).trans e2_W6
  have e3_W7 : W7.cell? ⟨nb, 3, none⟩ = some (.int .i64 p2) := (hbW7.cell (p := ⟨nb, _, none⟩) zW6_161).trans e3_W6
  have v0_W7 : W7.cell? ⟨nW3, 0, none⟩ = some (.int .i64 0) := (hbW7.cell (p := ⟨nW3, _, none⟩) zW6_163).trans v0_W6
  have v1_W7 : W7.cell? ⟨nW3, 1, none⟩ = some (.int .i64 0) := (hbW7.cell (p := ⟨nW3, _, none⟩) zW6_163).trans v1_W6
  have v2_W7 : W7.cell? ⟨nW3, 2, none⟩ = some (.int .i64 0) := (hbW7.cell (p := ⟨nW3, _, none⟩) zW6_163).trans v2_W6
  have v3_W7 : W7.cell? ⟨nW3, 3, none⟩ = some (.int .i64 0) := (hbW7.cell (p := ⟨nW3, _, none⟩) zW6_163).trans v3_W6
  clear a0_W6 a1_W6 a2_W6 a3_W6 e0_W6 e1_W6 e2_W6 e3_W6 v0_W6 v1_W6 v2_W6 v3_W6
  have zW7_187 : w.heap.size < W7.heap.size := Nat.lt_of_lt_of_le zW6_159 hbW7.size
  clear zW6_159
  have zW7_189 : nb < W7.heap.size := Nat.lt_of_lt_of_le zW6_161 hbW7.size
  clear zW6_161
  have zW7_191 : nW3 < W7.heap.size := Nat.lt_of_lt_of_le zW6_163 hbW7.size
  clear zW6_163
  have HS_W7 := Lib.hid (HS_W6.out.below hbW7)
  clear HS_W6
  have BW7 : Below w.heap.size w W7 := BW6.trans (hbW7.mono BW6.size)
  clear hbW7 BW6
  go_wp2_with fail
  go_at_call 13
  (with_reducible refine (ref_right_is _ _ _ _ _ HB.out _).mono ?_)
  rintro e W8 ⟨rfl, hbW8⟩
  have a0_W8 : W8.cell? ⟨w.heap.size, 0, none⟩ = some (.int .i64 r) := (hbW8.cell (p := ⟨w.heap.size, _, none⟩) zW7_187).trans a0_W7
  have a1_W8 : W8.cell? ⟨w.heap.size, 1, none⟩ = some (.int .i64 c) := (hbW8.cell (p := ⟨w.heap.size, _, none⟩) zW7_187).trans a1_W7
  have a2_W8 : W8.cell? ⟨w.heap.size, 2, none⟩ = some (.int .i64 b) := (hbW8.cell (p := ⟨w.heap.size, _, none⟩) zW7_187).trans a2_W7
  have a3_W8 : W8.cell? ⟨w.heap.size, 3, none⟩ = some (.int .i64 p) := (hbW8.cell (p := ⟨w.heap.size, _, none⟩) zW7_187).trans a3_W7
  have e0_W8 : W8.cell? ⟨nb, 0, none⟩ = some (.int .i64 r2) := (hbW8.cell (p := ⟨nb, _, none⟩) zW7_189).trans e0_W7
  have e1_W8 : W8.cell? ⟨nb, 1, none⟩ = some (.int .i64 c2) := (hbW8.cell (p := ⟨nb, _, none⟩) zW7_189).trans e1_W7
  have e2_W8 : W8.cell? ⟨nb, 2, none⟩ = some (.int .i64 b2) := (hbW8.cell (p := ⟨nb, _, none⟩) zW7_189).trans e2_W7
  have e3_W8 : W8.cell? ⟨nb, 3, none⟩ = some (.int .i64 p2) := (hbW8.cell (p := ⟨nb, _, none⟩) zW7_189).trans e3_W7
  have v0_W8 : W8.cell? ⟨nW3, 0, none⟩ = some (.int .i64 0) := (hbW8.cell (p := ⟨nW3, _, none⟩) zW7_191).trans v0_W7
  have v1_W8 : W8.cell? ⟨nW3, 1, none⟩ = some (.int .i64 0) := (hbW8.cell (p := ⟨nW3, _, none⟩) zW7_191).trans v1_W7
  have v2_W8 : W8.cell? ⟨nW3, 2, none⟩ = some (.int .i64 0) := (hbW8.cell (p := ⟨nW3, _, none⟩) zW7_191).trans v2_W7
  have v3_W8 : W8.cell? ⟨nW3, 3, none⟩ = some (.int .i64 0) := (hbW8.cell (p := ⟨nW3, _, none⟩) zW7_191).trans v3_W7
  clear a0_W7 a1_W7 a2_W7 a3_W7 e0_W7 e1_W7 e2_W7 e3_W7 v0_W7 v1_W7 v2_W7 v3_W7
  have zW8_214 : w.heap.size < W8.heap.size := Nat.lt_of_lt_of_le zW7_187 hbW8.size
  clear zW7_187
  have zW8_216 : nb < W8.heap.size := Nat.lt_of_lt_of_le zW7_189 hbW8.size
  clear zW7_189
  have zW8_218 : nW3 < W8.heap.size := Nat.lt_of_lt_of_le zW7_191 hbW8.size
  clear zW7_191
  have HS_W8 := Lib.hid (HS_W7.out.below hbW8)
  clear HS_W7
  have BW8 : Below w.heap.size w W8 := BW7.trans (hbW8.mono BW7.size)
  clear hbW8 BW7
  go_wp2_with fail
  go_at_call 15
  (with_reducible refine (ref_better_any _ _ _ _ _ _ _ _ _).mono ?_)
  rintro e W9 ⟨rfl, hbW9⟩
  have a0_W9 : W9.cell? ⟨w.heap.size, 0, none⟩ = some (.int .i64 r) := (hbW9.cell (p := ⟨w.heap.size, _, none⟩) zW8_214).trans a0_W8
  have a1_W9 : W9.cell? ⟨w.heap.size, 1, none⟩ = some (.int .i64 c) := (hbW9.cell (p := ⟨w.heap.size, _, none⟩) zW8_214).trans a1_W8
  have a2_W9 : W9.cell? ⟨w.heap.size, 2, none⟩ = some (.int .i64 b) := (hbW9.cell (p := ⟨w.heap.size, _, none⟩) zW8_214).trans a2_W8
  have a3_W9 : W9.cell? ⟨w.heap.size, 3, none⟩ = some (.int .i64 p) := (hbW9.cell (p := ⟨w.heap.size, _, none⟩) zW8_214).trans a3_W8
  have e0_W9 : W9.cell? ⟨nb, 0, none⟩ = some (.int .i64 r2) := (hbW9.cell (p := ⟨nb, _, none⟩) zW8_216).trans e0_W8
  have e1_W9 : W9.cell? ⟨nb, 1, none⟩ = some (.int .i64 c2) := (hbW9.cell (p := ⟨nb, _, none⟩) zW8_216).trans e1_W8
  have e2_W9 : W9.cell? ⟨nb, 2, none⟩ = some (.int .i64 b2) := (hbW9.cell (p := ⟨nb, _, none⟩) zW8_216).trans e2_W8
  have e3_W9 : W9.cell? ⟨nb, 3, none⟩ = some (.int .i64 p2) := (hbW9.cell (p := ⟨nb, _, none⟩) zW8_216).trans e3_W8
  have v0_W9 : W9.cell? ⟨nW3, 0, none⟩ = some (.int .i64 0) := (hbW9.cell (p := ⟨nW3, _, none⟩) zW8_218).trans v0_W8
  have v1_W9 : W9.cell? ⟨nW3, 1, none⟩ = some (.int .i64 0) := (hbW9.cell (p := ⟨nW3, _, none⟩) zW8_218).trans v1_W8
  have v2_W9 : W9.cell? ⟨nW3, 2, none⟩ = some (.int .i64 0) := (hbW9.cell (p := ⟨nW3, _, none⟩) zW8_218).trans v2_W8
  have v3_W9 : W9.cell? ⟨nW3, 3, none⟩ = some (.int .i64 0) := (hbW9.cell (p := ⟨nW3, _, none⟩) zW8_218).trans v3_W8
  clear a0_W8 a1_W8 a2_W8 a3_W8 e0_W8 e1_W8 e2_W8 e3_W8 v0_W8 v1_W8 v2_W8 v3_W8
  have zW9_241 : w.heap.size < W9.heap.size := Nat.lt_of_lt_of_le zW8_214 hbW9.size
  clear zW8_214
  have zW9_243 : nb < W9.heap.size := Nat.lt_of_lt_of_le zW8_216 hbW9.size
  clear zW8_216
  have zW9_245 : nW3 < W9.heap.size := Nat.lt_of_lt_of_le zW8_218 hbW9.size
  clear zW8_218
  have HS_W9 := Lib.hid (HS_W8.out.below hbW9)
  clear HS_W8
  have BW9 : Below w.heap.size w W9 := BW8.trans (hbW9.mono BW8.size)
  clear hbW9 BW8
  go_wp2_with fail
  go_at_call 13
  (with_reducible refine (ref_right_is _ _ _ _ _ HA.out _).mono ?_)
  rintro e W10 ⟨rfl, hbW10⟩
  have a0_W10 : W10.cell? ⟨w.heap.size, 0, none⟩ = some (.int .i64 r) := (hbW10.cell (p := ⟨w.heap.size, _, none⟩) zW9_241).trans a0_W9
  have a1_W10 : W10.cell? ⟨w.heap.size, 1, none⟩ = some (.int .i64 c) := (hbW10.cell (p := ⟨w.heap.size, _, none⟩) zW9_241).trans a1_W9
  have a2_W10 : W10.cell? ⟨w.heap.size, 2, none⟩ = some (.int .i64 b) := (hbW10.cell (p := ⟨w.heap.size, _, none⟩) zW9_241).trans a2_W9
  have a3_W10 : W10.cell? ⟨w.heap.size, 3, none⟩ = some (.int .i64 p) := (hbW10.cell (p := ⟨w.heap.size, _, none⟩) zW9_241).trans a3_W9
  have e0_W10 : W10.cell? ⟨nb, 0, none⟩ = some (.int .i64 r2) := (hbW10.cell (p := ⟨nb, _, none⟩) zW9_243).trans e0_W9
  have e1_W10 : W10.cell? ⟨nb, 1, none⟩ = some (.int .i64 c2) := (hbW10.cell (p := ⟨nb, _, none⟩) zW9_243).trans e1_W9
  have e2_W10 : W10.cell? ⟨nb, 2, none⟩ = some (.int .i64 b2) := (hbW10.cell (p := ⟨nb, _, none⟩) zW9_243).trans e2_W9
  have e3_W10 : W10.cell? ⟨nb, 3, none⟩ = some (.int .i64 p2) := (hbW10.cell (p := ⟨nb, _, none⟩) zW9_243).trans e3_W9
  have v0_W10 : W10.cell? ⟨nW3, 0, none⟩ = some (.int .i64 0) := (hbW10.cell (p := ⟨nW3, _, none⟩) zW9_245).trans v0_W9
  have v1_W10 : W10.cell? ⟨nW3, 1, none⟩ = some (.int .i64 0) := (hbW10.cell (p := ⟨nW3, _, none⟩) zW9_245).trans v1_W9
  have v2_W10 : W10.cell? ⟨nW3, 2, none⟩ = some (.int .i64 0) := (hbW10.cell (p := ⟨nW3, _, none⟩) zW9_245).trans v2_W9
  have v3_W10 : W10.cell? ⟨nW3, 3, none⟩ = some (.int .i64 0) := (hbW10.cell (p := ⟨nW3, _, none⟩) zW9_245).trans v3_W9
  clear a0_W9 a1_W9 a2_W9 a3_W9 e0_W9 e1_W9 e2_W9 e3_W9 v0_W9 v1_W9 v2_W9 v3_W9
  have zW10_268 : w.heap.size < W10.heap.size := Nat.lt_of_lt_of_le zW9_241 hbW10.size
  clear zW9_241
  have zW10_270 : nb < W10.heap.size := Nat.lt_of_lt_of_le zW9_243 hbW10.size
  clear zW9_243
  have zW10_272 : nW3 < W10.heap.size := Nat.lt_of_lt_of_le zW9_245 hbW10.size
  clear zW9_245
  have HS_W10 := Lib.hid (HS_W9.out.below hbW10)
  clear HS_W9
  have BW10 : Below w.heap.size w W10 := BW9.trans (hbW10.mono BW9.size)
  clear hbW10 BW9
  go_wp2_with fail
  go_at_call 17
  (with_reducible refine (ref_all_is _ _ _ _ _ (by omega) HS_W10.out HL.out).mono ?_)
  rintro e W11 ⟨rfl, hbW11⟩
  have a0_W11 : W11.cell? ⟨w.heap.size, 0, none⟩ = some (.int .i64 r) := (hbW11.cell (p := ⟨w.heap.size, _, none⟩) zW10_268).trans a0_W10
  have a1_W11 : W11.cell? ⟨w.heap.size, 1, none⟩ = some (.int .i64 c) := (hbW11.cell (p := ⟨w.heap.size, _, none⟩) zW10_268).trans a1_W10
  have a2_W11 : W11.cell? ⟨w.heap.size, 2, none⟩ = some (.int .i64 b) := (hbW11.cell (p := ⟨w.heap.size, _, none⟩) zW10_268).trans a2_W10
  have a3_W11 : W11.cell? ⟨w.heap.size, 3, none⟩ = some (.int .i64 p) := (hbW11.cell (p := ⟨w.heap.size, _, none⟩) zW10_268).trans a3_W10
  have e0_W11 : W11.cell? ⟨nb, 0, none⟩ = some (.int .i64 r2) := (hbW11.cell (p := ⟨nb, _, none⟩) zW10_270).trans e0_W10
  have e1_W11 : W11.cell? ⟨nb, 1, none⟩ = some (.int .i64 c2) := (hbW11.cell (p := ⟨nb, _, none⟩) zW10_270).trans e1_W10
  have e2_W11 : W11.cell? ⟨nb, 2, none⟩ = some (.int .i64 b2) := (hbW11.cell (p := ⟨nb, _, none⟩) zW10_270).trans e2_W10
  have e3_W11 : W11.cell? ⟨nb, 3, none⟩ = some (.int .i64 p2) := (hbW11.cell (p := ⟨nb, _, none⟩) zW10_270).trans e3_W10
  have v0_W11 : W11.cell? ⟨nW3, 0, none⟩ = some (.int .i64 0) := (hbW11.cell (p := ⟨nW3, _, none⟩) zW10_272).trans v0_W10
  have v1_W11 : W11.cell? ⟨nW3, 1, none⟩ = some (.int .i64 0) := (hbW11.cell (p := ⟨nW3, _, none⟩) zW10_272).trans v1_W10
  have v2_W11 : W11.cell? ⟨nW3, 2, none⟩ = some (.int .i64 0) := (hbW11.cell (p := ⟨nW3, _, none⟩) zW10_272).trans v2_W10
  have v3_W11 : W11.cell? ⟨nW3, 3, none⟩ = some (.int .i64 0) := (hbW11.cell (p := ⟨nW3, _, none⟩) zW10_272).trans v3_W10
  clear a0_W10 a1_W10 a2_W10 a3_W10 e0_W10 e1_W10 e2_W10 e3_W10 v0_W10 v1_W10 v2_W10 v3_W10
  have zW11_295 : w.heap.size < W11.heap.size := Nat.lt_of_lt_of_le zW10_268 hbW11.size
  clear zW10_268
  have zW11_297 : nb < W11.heap.size := Nat.lt_of_lt_of_le zW10_270 hbW11.size
  clear zW10_270
  have zW11_299 : nW3 < W11.heap.size := Nat.lt_of_lt_of_le zW10_272 hbW11.size
  clear zW10_272
  have HS_W11 := Lib.hid (HS_W10.out.below hbW11)
  clear HS_W10
  have BW11 : Below w.heap.size w W11 := BW10.trans (hbW11.mono BW10.size)
  clear hbW11 BW10
  clear a0_W11
  clear a1_W11
  clear a2_W11
  clear a3_W11
  clear e0_W11
  clear e1_W11
  clear e2_W11
  clear e3_W11
  clear v0_W11
  clear v1_W11
  clear v2_W11
  clear v3_W11
  go_wp2_with fail
  go_ret
  exact ⟨rfl, BW11⟩

set_option maxHeartbeats 8000000 in
theorem tells_yyy_bad (r c b p r2 c2 b2 p2 n : Int) (A : Option Addr) (n0 cap : Nat) (w : World) (ha : okV r c b p = true) (hb : okV r2 c2 b2 p2 = true) (hn0 : 0 ≤ n) (hn : n ≤ 2147483647) (l : List V) (hl : l.length ≤ 60) (hlc : l.length ≤ cap) (hS : SlV w A l) (hok : l.all V.ok = false) (hfew : ∀ w, Calls Try.prog 7 #[.slice A n0 cap] w fun e w' => e = .returned (.slice A l.length cap) ∧ w = w') :
    Calls Try.prog 3 #[vv r c b p, vv r2 c2 b2 p2, .int .i64 n, .slice A n0 cap] w fun e w' => e = .returned (.bool true) ∧ Below w.heap.size w w' := by
  have HA := Lib.hid ha
  have HB := Lib.hid hb
  have HC := Lib.hid (inB_of hn0 hn)
  obtain ⟨cc0, cc1, _, _⟩ := far_min c c (okV_cost ha) (okV_cost ha)
  have HS := Lib.hid hS
  have HL := Lib.hid hok
  clear hS hok
  have HF := Lib.hid hfew
  clear hfew ha hb
  go_enter Try.func3, Try.ntmps3
  go_wp2_with fail
  go_at_call 7
  (with_reducible refine (HF.out _).mono ?_)
  rintro e w' ⟨rfl, rfl⟩
  obtain ⟨W0, hW0⟩ : ∃ W0, W0 = (w.alloc (.cells #[.int .i64 r, .int .i64 c, .int .i64 b, .int .i64 p] 23)).alloc (.cells #[.int .i64 r2, .int .i64 c2, .int .i64 b2, .int .i64 p2] 23) := ⟨_, rfl⟩
  have B0 : Below w.heap.size w W0 := by rw [hW0]; exact ((Below.refl _ _).alloc (Nat.le_refl _) _).alloc (by simp) _
  have za : w.heap.size < W0.heap.size := by rw [hW0]; simp; omega
  have zb : w.heap.size + 1 < W0.heap.size := by rw [hW0]; simp
  have a0 : W0.cell? ⟨w.heap.size, 0, none⟩ = some (.int .i64 r) := by rw [hW0]; go_simp
  have a1 : W0.cell? ⟨w.heap.size, 1, none⟩ = some (.int .i64 c) := by rw [hW0]; go_simp
  have a2 : W0.cell? ⟨w.heap.size, 2, none⟩ = some (.int .i64 b) := by rw [hW0]; go_simp
  have a3 : W0.cell? ⟨w.heap.size, 3, none⟩ = some (.int .i64 p) := by rw [hW0]; go_simp
  have e0 : W0.cell? ⟨w.heap.size + 1, 0, none⟩ = some (.int .i64 r2) := by rw [hW0]; go_simp
  have e1 : W0.cell? ⟨w.heap.size + 1, 1, none⟩ = some (.int .i64 c2) := by rw [hW0]; go_simp
  have e2 : W0.cell? ⟨w.heap.size + 1, 2, none⟩ = some (.int .i64 b2) := by rw [hW0]; go_simp
  have e3 : W0.cell? ⟨w.heap.size + 1, 3, none⟩ = some (.int .i64 p2) := by rw [hW0]; go_simp
  have HS0 := Lib.hid (HS.out.below B0)
  rw [← hW0]
  clear hW0 HS
  generalize w.heap.size + 1 = nb at *
  go_wp2_with fail
  go_at_call 8
  (with_reducible refine (better_good _ _ _ _ _ _ _ _ _ HA.out HB.out).mono ?_)
  rintro e W1 ⟨rfl, hbW1⟩
  have a0_W1 : W1.cell? ⟨w.heap.size, 0, none⟩ = some (.int .i64 r) := (hbW1.cell (p := ⟨w.heap.size, _, none⟩) za).trans a0
  have a1_W1 : W1.cell? ⟨w.heap.size, 1, none⟩ = some (.int .i64 c) := (hbW1.cell (p := ⟨w.heap.size, _, none⟩) za).trans a1
  have a2_W1 : W1.cell? ⟨w.heap.size, 2, none⟩ = some (.int .i64 b) := (hbW1.cell (p := ⟨w.heap.size, _, none⟩) za).trans a2
  have a3_W1 : W1.cell? ⟨w.heap.size, 3, none⟩ = some (.int .i64 p) := (hbW1.cell (p := ⟨w.heap.size, _, none⟩) za).trans a3
  have e0_W1 : W1.cell? ⟨nb, 0, none⟩ = some (.int .i64 r2) := (hbW1.cell (p := ⟨nb, _, none⟩) zb).trans e0
  have e1_W1 : W1.cell? ⟨nb, 1, none⟩ = some (.int .i64 c2) := (hbW1.cell (p := ⟨nb, _, none⟩) zb).trans e1
  have e2_W1 : W1.cell? ⟨nb, 2, none⟩ = some (.int .i64 b2) := (hbW1.cell (p := ⟨nb, _, none⟩) zb).trans e2
  have e3_W1 : W1.cell? ⟨nb, 3, none⟩ = some (.int .i64 p2) := (hbW1.cell (p := ⟨nb, _, none⟩) zb).trans e3
  clear a0 a1 a2 a3 e0 e1 e2 e3
  have zW1_13 : w.heap.size < W1.heap.size := Nat.lt_of_lt_of_le za hbW1.size
  clear za
  have zW1_15 : nb < W1.heap.size := Nat.lt_of_lt_of_le zb hbW1.size
  clear zb
  have HS_W1 := Lib.hid (HS0.out.below hbW1)
  clear HS0
  have BW1 : Below w.heap.size w W1 := B0.trans (hbW1.mono B0.size)
  clear hbW1 B0
  go_wp2_with fail
  go_at_call 9
  (with_reducible refine (far_good _ _ _ _ _ _ HA.out HC.out).mono ?_)
  rintro e W2 ⟨rfl, hbW2⟩
  have a0_W2 : W2.cell? ⟨w.heap.size, 0, none⟩ = some (.int .i64 r) := (hbW2.cell (p := ⟨w.heap.size, _, none⟩) zW1_13).trans a0_W1
  have a1_W2 : W2.cell? ⟨w.heap.size, 1, none⟩ = some (.int .i64 c) := (hbW2.cell (p := ⟨w.heap.size, _, none⟩) zW1_13).trans a1_W1
  have a2_W2 : W2.cell? ⟨w.heap.size, 2, none⟩ = some (.int .i64 b) := (hbW2.cell (p := ⟨w.heap.size, _, none⟩) zW1_13).trans a2_W1
  have a3_W2 : W2.cell? ⟨w.heap.size, 3, none⟩ = some (.int .i64 p) := (hbW2.cell (p := ⟨w.heap.size, _, none⟩) zW1_13).trans a3_W1
  have e0_W2 : W2.cell? ⟨nb, 0, none⟩ = some (.int .i64 r2) := (hbW2.cell (p := ⟨nb, _, none⟩) zW1_15).trans e0_W1
  have e1_W2 : W2.cell? ⟨nb, 1, none⟩ = some (.int .i64 c2) := (hbW2.cell (p := ⟨nb, _, none⟩) zW1_15).trans e1_W1
  have e2_W2 : W2.cell? ⟨nb, 2, none⟩ = some (.int .i64 b2) := (hbW2.cell (p := ⟨nb, _, none⟩) zW1_15).trans e2_W1
  have e3_W2 : W2.cell? ⟨nb, 3, none⟩ = some (.int .i64 p2) := (hbW2.cell (p := ⟨nb, _, none⟩) zW1_15).trans e3_W1
  clear a0_W1 a1_W1 a2_W1 a3_W1 e0_W1 e1_W1 e2_W1 e3_W1
  have zW2_34 : w.heap.size < W2.heap.size := Nat.lt_of_lt_of_le zW1_13 hbW2.size
  clear zW1_13
  have zW2_36 : nb < W2.heap.size := Nat.lt_of_lt_of_le zW1_15 hbW2.size
  clear zW1_15
  have HS_W2 := Lib.hid (HS_W1.out.below hbW2)
  clear HS_W1
  have BW2 : Below w.heap.size w W2 := BW1.trans (hbW2.mono BW1.size)
  clear hbW2 BW1
  obtain ⟨X, hX⟩ : ∃ X, min (c + n) 2147483647 = X := ⟨_, rfl⟩
  rw [hX]
  replace hX := Lib.hid hX
  go_wp2_with fail
  obtain ⟨W3, hW3⟩ : ∃ W3, W3 = W2.alloc (.cells #[.int .i64 r, .int .i64 X, .int .i64 b, .int .i64 p] 23) := ⟨_, rfl⟩
  have BW3 : Below w.heap.size w W3 := by rw [hW3]; exact BW2.alloc BW2.size _
  have a0_W3 : W3.cell? ⟨w.heap.size, 0, none⟩ = some (.int .i64 r) := by rw [hW3, World.cell?_alloc_lt _ _ _ (show w.heap.size < W2.heap.size from zW2_34)]; exact a0_W2
  have a1_W3 : W3.cell? ⟨w.heap.size, 1, none⟩ = some (.int .i64 c) := by rw [hW3, World.cell?_alloc_lt _ _ _ (show w.heap.size < W2.heap.size from zW2_34)]; exact a1_W2
  have a2_W3 : W3.cell? ⟨w.heap.size, 2, none⟩ = some (.int .i64 b) := by rw [hW3, World.cell?_alloc_lt _ _ _ (show w.heap.size < W2.heap.size from zW2_34)]; exact a2_W2
  have a3_W3 : W3.cell? ⟨w.heap.size, 3, none⟩ = some (.int .i64 p) := by rw [hW3, World.cell?_alloc_lt _ _ _ (show w.heap.size < W2.heap.size from zW2_34)]; exact a3_W2
  have e0_W3 : W3.cell? ⟨nb, 0, none⟩ = some (.int .i64 r2) := by rw [hW3, World.cell?_alloc_lt _ _ _ (show nb < W2.heap.size from zW2_36)]; exact e0_W2
  have e1_W3 : W3.cell? ⟨nb, 1, none⟩ = some (.int .i64 c2) := by rw [hW3, World.cell?_alloc_lt _ _ _ (show nb < W2.heap.size from zW2_36)]; exact e1_W2
  have e2_W3 : W3.cell? ⟨nb, 2, none⟩ = some (.int .i64 b2) := by rw [hW3, World.cell?_alloc_lt _ _ _ (show nb < W2.heap.size from zW2_36)]; exact e2_W2
  have e3_W3 : W3.cell? ⟨nb, 3, none⟩ = some (.int .i64 p2) := by rw [hW3, World.cell?_alloc_lt _ _ _ (show nb < W2.heap.size from zW2_36)]; exact e3_W2
  clear a0_W2 a1_W2 a2_W2 a3_W2 e0_W2 e1_W2 e2_W2 e3_W2
  have hzW3 : W3.heap.size = W2.heap.size + 1 := by rw [hW3]; simp
  have zW3_58 : w.heap.size < W3.heap.size := by rw [hzW3]; have := zW2_34; omega
  clear zW2_34
  have zW3_60 : nb < W3.heap.size := by rw [hzW3]; have := zW2_36; omega
  clear zW2_36
  have v0_W3 : W3.cell? ⟨W2.heap.size, 0, none⟩ = some (.int .i64 r) := by rw [hW3]; go_simp
  have v1_W3 : W3.cell? ⟨W2.heap.size, 1, none⟩ = some (.int .i64 X) := by rw [hW3]; go_simp
  have v2_W3 : W3.cell? ⟨W2.heap.size, 2, none⟩ = some (.int .i64 b) := by rw [hW3]; go_simp
  have v3_W3 : W3.cell? ⟨W2.heap.size, 3, none⟩ = some (.int .i64 p) := by rw [hW3]; go_simp
  have HS_W3 := Lib.hid (HS_W2.out.below (show Below W2.heap.size W2 W3 by rw [hW3]; exact (Below.refl _ _).alloc (Nat.le_refl _) _))
  clear HS_W2
  have znW3 : W2.heap.size < W3.heap.size := by rw [hzW3]; omega
  rw [← hW3]
  clear hW3 hzW3 BW2
  generalize W2.heap.size = nW3 at *
  go_at_call 10
  (with_reducible refine (best_bad _ _ _ _ (by omega) HS_W3.out HL.out).mono ?_)
  rintro e W4 ⟨rfl, hbW4⟩
  have a0_W4 : W4.cell? ⟨w.heap.size, 0, none⟩ = some (.int .i64 r) := (hbW4.cell (p := ⟨w.heap.size, _, none⟩) zW3_58).trans a0_W3
  have a1_W4 : W4.cell? ⟨w.heap.size, 1, none⟩ = some (.int .i64 c) := (hbW4.cell (p := ⟨w.heap.size, _, none⟩) zW3_58).trans a1_W3
  have a2_W4 : W4.cell? ⟨w.heap.size, 2, none⟩ = some (.int .i64 b) := (hbW4.cell (p := ⟨w.heap.size, _, none⟩) zW3_58).trans a2_W3
  have a3_W4 : W4.cell? ⟨w.heap.size, 3, none⟩ = some (.int .i64 p) := (hbW4.cell (p := ⟨w.heap.size, _, none⟩) zW3_58).trans a3_W3
  have e0_W4 : W4.cell? ⟨nb, 0, none⟩ = some (.int .i64 r2) := (hbW4.cell (p := ⟨nb, _, none⟩) zW3_60).trans e0_W3
  have e1_W4 : W4.cell? ⟨nb, 1, none⟩ = some (.int .i64 c2) := (hbW4.cell (p := ⟨nb, _, none⟩) zW3_60).trans e1_W3
  have e2_W4 : W4.cell? ⟨nb, 2, none⟩ = some (.int .i64 b2) := (hbW4.cell (p := ⟨nb, _, none⟩) zW3_60).trans e2_W3
  have e3_W4 : W4.cell? ⟨nb, 3, none⟩ = some (.int .i64 p2) := (hbW4.cell (p := ⟨nb, _, none⟩) zW3_60).trans e3_W3
  have v0_W4 : W4.cell? ⟨nW3, 0, none⟩ = some (.int .i64 r) := (hbW4.cell (p := ⟨nW3, _, none⟩) znW3).trans v0_W3
  have v1_W4 : W4.cell? ⟨nW3, 1, none⟩ = some (.int .i64 X) := (hbW4.cell (p := ⟨nW3, _, none⟩) znW3).trans v1_W3
  have v2_W4 : W4.cell? ⟨nW3, 2, none⟩ = some (.int .i64 b) := (hbW4.cell (p := ⟨nW3, _, none⟩) znW3).trans v2_W3
  have v3_W4 : W4.cell? ⟨nW3, 3, none⟩ = some (.int .i64 p) := (hbW4.cell (p := ⟨nW3, _, none⟩) znW3).trans v3_W3
  clear a0_W3 a1_W3 a2_W3 a3_W3 e0_W3 e1_W3 e2_W3 e3_W3 v0_W3 v1_W3 v2_W3 v3_W3
  have zW4_88 : w.heap.size < W4.heap.size := Nat.lt_of_lt_of_le zW3_58 hbW4.size
  clear zW3_58
  have zW4_90 : nb < W4.heap.size := Nat.lt_of_lt_of_le zW3_60 hbW4.size
  clear zW3_60
  have zW4_92 : nW3 < W4.heap.size := Nat.lt_of_lt_of_le znW3 hbW4.size
  clear znW3
  have HS_W4 := Lib.hid (HS_W3.out.below hbW4)
  clear HS_W3
  have BW4 : Below w.heap.size w W4 := BW3.trans (hbW4.mono BW3.size)
  clear hbW4 BW3
  go_wp2_with fail
  go_at_call 11
  (with_reducible refine (sort_bad _ _ _ _ (by omega) HS_W4.out HL.out).mono ?_)
  rintro e W5 ⟨rfl, hbW5⟩
  have a0_W5 : W5.cell? ⟨w.heap.size, 0, none⟩ = some (.int .i64 r) := (hbW5.cell (p := ⟨w.heap.size, _, none⟩) zW4_88).trans a0_W4
  have a1_W5 : W5.cell? ⟨w.heap.size, 1, none⟩ = some (.int .i64 c) := (hbW5.cell (p := ⟨w.heap.size, _, none⟩) zW4_88).trans a1_W4
  have a2_W5 : W5.cell? ⟨w.heap.size, 2, none⟩ = some (.int .i64 b) := (hbW5.cell (p := ⟨w.heap.size, _, none⟩) zW4_88).trans a2_W4
  have a3_W5 : W5.cell? ⟨w.heap.size, 3, none⟩ = some (.int .i64 p) := (hbW5.cell (p := ⟨w.heap.size, _, none⟩) zW4_88).trans a3_W4
  have e0_W5 : W5.cell? ⟨nb, 0, none⟩ = some (.int .i64 r2) := (hbW5.cell (p := ⟨nb, _, none⟩) zW4_90).trans e0_W4
  have e1_W5 : W5.cell? ⟨nb, 1, none⟩ = some (.int .i64 c2) := (hbW5.cell (p := ⟨nb, _, none⟩) zW4_90).trans e1_W4
  have e2_W5 : W5.cell? ⟨nb, 2, none⟩ = some (.int .i64 b2) := (hbW5.cell (p := ⟨nb, _, none⟩) zW4_90).trans e2_W4
  have e3_W5 : W5.cell? ⟨nb, 3, none⟩ = some (.int .i64 p2) := (hbW5.cell (p := ⟨nb, _, none⟩) zW4_90).trans e3_W4
  have v0_W5 : W5.cell? ⟨nW3, 0, none⟩ = some (.int .i64 r) := (hbW5.cell (p := ⟨nW3, _, none⟩) zW4_92).trans v0_W4
  have v1_W5 : W5.cell? ⟨nW3, 1, none⟩ = some (.int .i64 X) := (hbW5.cell (p := ⟨nW3, _, none⟩) zW4_92).trans v1_W4
  have v2_W5 : W5.cell? ⟨nW3, 2, none⟩ = some (.int .i64 b) := (hbW5.cell (p := ⟨nW3, _, none⟩) zW4_92).trans v2_W4
  have v3_W5 : W5.cell? ⟨nW3, 3, none⟩ = some (.int .i64 p) := (hbW5.cell (p := ⟨nW3, _, none⟩) zW4_92).trans v3_W4
  clear a0_W4 a1_W4 a2_W4 a3_W4 e0_W4 e1_W4 e2_W4 e3_W4 v0_W4 v1_W4 v2_W4 v3_W4
  have zW5_115 : w.heap.size < W5.heap.size := Nat.lt_of_lt_of_le zW4_88 hbW5.size
  clear zW4_88
  have zW5_117 : nb < W5.heap.size := Nat.lt_of_lt_of_le zW4_90 hbW5.size
  clear zW4_90
  have zW5_119 : nW3 < W5.heap.size := Nat.lt_of_lt_of_le zW4_92 hbW5.size
  clear zW4_92
  have HS_W5 := Lib.hid (HS_W4.out.below hbW5)
  clear HS_W4
  have BW5 : Below w.heap.size w W5 := BW4.trans (hbW5.mono BW4.size)
  clear hbW5 BW4
  go_wp2_with fail
  have K_a0 := cell_regrown a0_W5
  have K_a1 := cell_regrown a1_W5
  have K_a2 := cell_regrown a2_W5
  have K_a3 := cell_regrown a3_W5
  have K_e0 := cell_regrown e0_W5
  have K_e1 := cell_regrown e1_W5
  have K_e2 := cell_regrown e2_W5
  have K_e3 := cell_regrown e3_W5
  have K_v0 := cell_regrown v0_W5
  have K_v1 := cell_regrown v1_W5
  have K_v2 := cell_regrown v2_W5
  have K_v3 := cell_regrown v3_W5
  clear a0_W5 a1_W5 a2_W5 a3_W5 e0_W5 e1_W5 e2_W5 e3_W5 v0_W5 v1_W5 v2_W5 v3_W5
  have cC0 := fun (d : Nat) (os : Array Obj) => Calls.regrown_of (right_is r c b p _ HA.out (Go.Sort.grow (redrawn W5 d) os))
  have cC1 := fun (d : Nat) (os : Array Obj) => Calls.regrown_of (ref_right_is r c b p _ HA.out (Go.Sort.grow (redrawn W5 d) os))
  have cC2 := fun (d : Nat) (os : Array Obj) => Calls.regrown_of (alive_any (Go.Sort.grow (redrawn W5 d) os))
  refine wp_region_quiet_below (by kernel_rfl) (by kernel_rfl) ?_
  repeat (first | go_big_quiet_step (first | exact cC0 _ _ | exact cC1 _ _ | exact cC2 _ _) | quiet_step (first | exact cC0 _ _ | exact cC1 _ _ | exact cC2 _ _))
  refine wpQuiet_nil ?_
  intro _ hw'
  obtain ⟨⟨dq, osq⟩, hw''⟩ := hw'
  subst hw''
  have hbW6 := below_regrown W5 dq osq
  have a0_W6 := K_a0 dq osq
  have a1_W6 := K_a1 dq osq
  have a2_W6 := K_a2 dq osq
  have a3_W6 := K_a3 dq osq
  have e0_W6 := K_e0 dq osq
  have e1_W6 := K_e1 dq osq
  have e2_W6 := K_e2 dq osq
  have e3_W6 := K_e3 dq osq
  have v0_W6 := K_v0 dq osq
  have v1_W6 := K_v1 dq osq
  have v2_W6 := K_v2 dq osq
  have v3_W6 := K_v3 dq osq
  clear K_a0 K_a1 K_a2 K_a3 K_e0 K_e1 K_e2 K_e3 K_v0 K_v1 K_v2 K_v3 cC0 cC1 cC2 
  have zW6_162 : w.heap.size < (Go.Sort.grow (redrawn W5 dq) osq).heap.size := Nat.lt_of_lt_of_le zW5_115 hbW6.size
  clear zW5_115
  have zW6_164 : nb < (Go.Sort.grow (redrawn W5 dq) osq).heap.size := Nat.lt_of_lt_of_le zW5_117 hbW6.size
  clear zW5_117
  have zW6_166 : nW3 < (Go.Sort.grow (redrawn W5 dq) osq).heap.size := Nat.lt_of_lt_of_le zW5_119 hbW6.size
  clear zW5_119
  have HS_W6 := Lib.hid (HS_W5.out.below hbW6)
  clear HS_W5
  have BW6 : Below w.heap.size w (Go.Sort.grow (redrawn W5 dq) osq) := BW5.trans (hbW6.mono BW5.size)
  clear hbW6 BW5
  generalize Go.Sort.grow (redrawn W5 dq) osq = W6 at *
  go_wp2_with fail
  go_at_call 13
  (with_reducible refine (ref_right_is _ _ _ _ _ HA.out _).mono ?_)
  rintro e W7 ⟨rfl, hbW7⟩
  have a0_W7 : W7.cell? ⟨w.heap.size, 0, none⟩ = some (.int .i64 r) := (hbW7.cell (p := ⟨w.heap.size, _, none⟩) zW6_162).trans a0_W6
  have a1_W7 : W7.cell? ⟨w.heap.size, 1, none⟩ = some (.int .i64 c) := (hbW7.cell (p := ⟨w.heap.size, _, none⟩) zW6_162).trans a1_W6
  have a2_W7 : W7.cell? ⟨w.heap.size, 2, none⟩ = some (.int .i64 b) := (hbW7.cell (p := ⟨w.heap.size, _, none⟩) zW6_162).trans a2_W6
  have a3_W7 : W7.cell? ⟨w.heap.size, 3, none⟩ = some (.int .i64 p) := (hbW7.cell (p := ⟨w.heap.size, _, none⟩) zW6_162).trans a3_W6
  have e0_W7 : W7.cell? ⟨nb, 0, none⟩ = some (.int .i64 r2) := (hbW7.cell (p := ⟨nb, _, none⟩) zW6_164).trans e0_W6
  have e1_W7 : W7.cell? ⟨nb, 1, none⟩ = some (.int .i64 c2) := (hbW7.cell (p := ⟨nb, _, none⟩) zW6_164).trans e1_W6
  have e2_W7 : W7.cell? ⟨nb, 2, none⟩ = some (.int .i64 b2) := (hbW7.cell (p := ⟨nb, _, none⟩) zW6_164).trans e2_W6
  have e3_W7 : W7.cell? ⟨nb, 3, none⟩ = some (.int .i64 p2) := (hbW7.cell (p := ⟨nb, _, none⟩) zW6_164).trans e3_W6
  have v0_W7 : W7.cell? ⟨nW3, 0, none⟩ = some (.int .i64 r) := (hbW7.cell (p := ⟨nW3, _, none⟩) zW6_166).trans v0_W6
  have v1_W7 : W7.cell? ⟨nW3, 1, none⟩ = some (.int .i64 X) := (hbW7.cell (p := ⟨nW3, _, none⟩) zW6_166).trans v1_W6
  have v2_W7 : W7.cell? ⟨nW3, 2, none⟩ = some (.int .i64 b) := (hbW7.cell (p := ⟨nW3, _, none⟩) zW6_166).trans v2_W6
  have v3_W7 : W7.cell? ⟨nW3, 3, none⟩ = some (.int .i64 p) := (hbW7.cell (p := ⟨nW3, _, none⟩) zW6_166).trans v3_W6
  clear a0_W6 a1_W6 a2_W6 a3_W6 e0_W6 e1_W6 e2_W6 e3_W6 v0_W6 v1_W6 v2_W6 v3_W6
  have zW7_190 : w.heap.size < W7.heap.size := Nat.lt_of_lt_of_le zW6_162 hbW7.size
  clear zW6_162
  have zW7_192 : nb < W7.heap.size := Nat.lt_of_lt_of_le zW6_164 hbW7.size
  clear zW6_164
  have zW7_194 : nW3 < W7.heap.size := Nat.lt_of_lt_of_le zW6_166 hbW7.size
  clear zW6_166
  have HS_W7 := Lib.hid (HS_W6.out.below hbW7)
  clear HS_W6
  have BW7 : Below w.heap.size w W7 := BW6.trans (hbW7.mono BW6.size)
  clear hbW7 BW6
  go_wp2_with fail
  go_at_call 13
  (with_reducible refine (ref_right_is _ _ _ _ _ HB.out _).mono ?_)
  rintro e W8 ⟨rfl, hbW8⟩
  have a0_W8 : W8.cell? ⟨w.heap.size, 0, none⟩ = some (.int .i64 r) := (hbW8.cell (p := ⟨w.heap.size, _, none⟩) zW7_190).trans a0_W7
  have a1_W8 : W8.cell? ⟨w.heap.size, 1, none⟩ = some (.int .i64 c) := (hbW8.cell (p := ⟨w.heap.size, _, none⟩) zW7_190).trans a1_W7
  have a2_W8 : W8.cell? ⟨w.heap.size, 2, none⟩ = some (.int .i64 b) := (hbW8.cell (p := ⟨w.heap.size, _, none⟩) zW7_190).trans a2_W7
  have a3_W8 : W8.cell? ⟨w.heap.size, 3, none⟩ = some (.int .i64 p) := (hbW8.cell (p := ⟨w.heap.size, _, none⟩) zW7_190).trans a3_W7
  have e0_W8 : W8.cell? ⟨nb, 0, none⟩ = some (.int .i64 r2) := (hbW8.cell (p := ⟨nb, _, none⟩) zW7_192).trans e0_W7
  have e1_W8 : W8.cell? ⟨nb, 1, none⟩ = some (.int .i64 c2) := (hbW8.cell (p := ⟨nb, _, none⟩) zW7_192).trans e1_W7
  have e2_W8 : W8.cell? ⟨nb, 2, none⟩ = some (.int .i64 b2) := (hbW8.cell (p := ⟨nb, _, none⟩) zW7_192).trans e2_W7
  have e3_W8 : W8.cell? ⟨nb, 3, none⟩ = some (.int .i64 p2) := (hbW8.cell (p := ⟨nb, _, none⟩) zW7_192).trans e3_W7
  have v0_W8 : W8.cell? ⟨nW3, 0, none⟩ = some (.int .i64 r) := (hbW8.cell (p := ⟨nW3, _, none⟩) zW7_194).trans v0_W7
  have v1_W8 : W8.cell? ⟨nW3, 1, none⟩ = some (.int .i64 X) := (hbW8.cell (p := ⟨nW3, _, none⟩) zW7_194).trans v1_W7
  have v2_W8 : W8.cell? ⟨nW3, 2, none⟩ = some (.int .i64 b) := (hbW8.cell (p := ⟨nW3, _, none⟩) zW7_194).trans v2_W7
  have v3_W8 : W8.cell? ⟨nW3, 3, none⟩ = some (.int .i64 p) := (hbW8.cell (p := ⟨nW3, _, none⟩) zW7_194).trans v3_W7
  clear a0_W7 a1_W7 a2_W7 a3_W7 e0_W7 e1_W7 e2_W7 e3_W7 v0_W7 v1_W7 v2_W7 v3_W7
  have zW8_217 : w.heap.size < W8.heap.size := Nat.lt_of_lt_of_le zW7_190 hbW8.size
  clear zW7_190
  have zW8_219 : nb < W8.heap.size := Nat.lt_of_lt_of_le zW7_192 hbW8.size
  clear zW7_192
  have zW8_221 : nW3 < W8.heap.size := Nat.lt_of_lt_of_le zW7_194 hbW8.size
  clear zW7_194
  have HS_W8 := Lib.hid (HS_W7.out.below hbW8)
  clear HS_W7
  have BW8 : Below w.heap.size w W8 := BW7.trans (hbW8.mono BW7.size)
  clear hbW8 BW7
  go_wp2_with fail
  go_at_call 15
  (with_reducible refine (ref_better_any _ _ _ _ _ _ _ _ _).mono ?_)
  rintro e W9 ⟨rfl, hbW9⟩
  have a0_W9 : W9.cell? ⟨w.heap.size, 0, none⟩ = some (.int .i64 r) := (hbW9.cell (p := ⟨w.heap.size, _, none⟩) zW8_217).trans a0_W8
  have a1_W9 : W9.cell? ⟨w.heap.size, 1, none⟩ = some (.int .i64 c) := (hbW9.cell (p := ⟨w.heap.size, _, none⟩) zW8_217).trans a1_W8
  have a2_W9 : W9.cell? ⟨w.heap.size, 2, none⟩ = some (.int .i64 b) := (hbW9.cell (p := ⟨w.heap.size, _, none⟩) zW8_217).trans a2_W8
  have a3_W9 : W9.cell? ⟨w.heap.size, 3, none⟩ = some (.int .i64 p) := (hbW9.cell (p := ⟨w.heap.size, _, none⟩) zW8_217).trans a3_W8
  have e0_W9 : W9.cell? ⟨nb, 0, none⟩ = some (.int .i64 r2) := (hbW9.cell (p := ⟨nb, _, none⟩) zW8_219).trans e0_W8
  have e1_W9 : W9.cell? ⟨nb, 1, none⟩ = some (.int .i64 c2) := (hbW9.cell (p := ⟨nb, _, none⟩) zW8_219).trans e1_W8
  have e2_W9 : W9.cell? ⟨nb, 2, none⟩ = some (.int .i64 b2) := (hbW9.cell (p := ⟨nb, _, none⟩) zW8_219).trans e2_W8
  have e3_W9 : W9.cell? ⟨nb, 3, none⟩ = some (.int .i64 p2) := (hbW9.cell (p := ⟨nb, _, none⟩) zW8_219).trans e3_W8
  have v0_W9 : W9.cell? ⟨nW3, 0, none⟩ = some (.int .i64 r) := (hbW9.cell (p := ⟨nW3, _, none⟩) zW8_221).trans v0_W8
  have v1_W9 : W9.cell? ⟨nW3, 1, none⟩ = some (.int .i64 X) := (hbW9.cell (p := ⟨nW3, _, none⟩) zW8_221).trans v1_W8
  have v2_W9 : W9.cell? ⟨nW3, 2, none⟩ = some (.int .i64 b) := (hbW9.cell (p := ⟨nW3, _, none⟩) zW8_221).trans v2_W8
  have v3_W9 : W9.cell? ⟨nW3, 3, none⟩ = some (.int .i64 p) := (hbW9.cell (p := ⟨nW3, _, none⟩) zW8_221).trans v3_W8
  clear a0_W8 a1_W8 a2_W8 a3_W8 e0_W8 e1_W8 e2_W8 e3_W8 v0_W8 v1_W8 v2_W8 v3_W8
  have zW9_244 : w.heap.size < W9.heap.size := Nat.lt_of_lt_of_le zW8_217 hbW9.size
  clear zW8_217
  have zW9_246 : nb < W9.heap.size := Nat.lt_of_lt_of_le zW8_219 hbW9.size
  clear zW8_219
  have zW9_248 : nW3 < W9.heap.size := Nat.lt_of_lt_of_le zW8_221 hbW9.size
  clear zW8_221
  have HS_W9 := Lib.hid (HS_W8.out.below hbW9)
  clear HS_W8
  have BW9 : Below w.heap.size w W9 := BW8.trans (hbW9.mono BW8.size)
  clear hbW9 BW8
  go_wp2_with fail
  go_at_call 13
  (with_reducible refine (ref_right_is _ _ _ _ _ HA.out _).mono ?_)
  rintro e W10 ⟨rfl, hbW10⟩
  have a0_W10 : W10.cell? ⟨w.heap.size, 0, none⟩ = some (.int .i64 r) := (hbW10.cell (p := ⟨w.heap.size, _, none⟩) zW9_244).trans a0_W9
  have a1_W10 : W10.cell? ⟨w.heap.size, 1, none⟩ = some (.int .i64 c) := (hbW10.cell (p := ⟨w.heap.size, _, none⟩) zW9_244).trans a1_W9
  have a2_W10 : W10.cell? ⟨w.heap.size, 2, none⟩ = some (.int .i64 b) := (hbW10.cell (p := ⟨w.heap.size, _, none⟩) zW9_244).trans a2_W9
  have a3_W10 : W10.cell? ⟨w.heap.size, 3, none⟩ = some (.int .i64 p) := (hbW10.cell (p := ⟨w.heap.size, _, none⟩) zW9_244).trans a3_W9
  have e0_W10 : W10.cell? ⟨nb, 0, none⟩ = some (.int .i64 r2) := (hbW10.cell (p := ⟨nb, _, none⟩) zW9_246).trans e0_W9
  have e1_W10 : W10.cell? ⟨nb, 1, none⟩ = some (.int .i64 c2) := (hbW10.cell (p := ⟨nb, _, none⟩) zW9_246).trans e1_W9
  have e2_W10 : W10.cell? ⟨nb, 2, none⟩ = some (.int .i64 b2) := (hbW10.cell (p := ⟨nb, _, none⟩) zW9_246).trans e2_W9
  have e3_W10 : W10.cell? ⟨nb, 3, none⟩ = some (.int .i64 p2) := (hbW10.cell (p := ⟨nb, _, none⟩) zW9_246).trans e3_W9
  have v0_W10 : W10.cell? ⟨nW3, 0, none⟩ = some (.int .i64 r) := (hbW10.cell (p := ⟨nW3, _, none⟩) zW9_248).trans v0_W9
  have v1_W10 : W10.cell? ⟨nW3, 1, none⟩ = some (.int .i64 X) := (hbW10.cell (p := ⟨nW3, _, none⟩) zW9_248).trans v1_W9
  have v2_W10 : W10.cell? ⟨nW3, 2, none⟩ = some (.int .i64 b) := (hbW10.cell (p := ⟨nW3, _, none⟩) zW9_248).trans v2_W9
  have v3_W10 : W10.cell? ⟨nW3, 3, none⟩ = some (.int .i64 p) := (hbW10.cell (p := ⟨nW3, _, none⟩) zW9_248).trans v3_W9
  clear a0_W9 a1_W9 a2_W9 a3_W9 e0_W9 e1_W9 e2_W9 e3_W9 v0_W9 v1_W9 v2_W9 v3_W9
  have zW10_271 : w.heap.size < W10.heap.size := Nat.lt_of_lt_of_le zW9_244 hbW10.size
  clear zW9_244
  have zW10_273 : nb < W10.heap.size := Nat.lt_of_lt_of_le zW9_246 hbW10.size
  clear zW9_246
  have zW10_275 : nW3 < W10.heap.size := Nat.lt_of_lt_of_le zW9_248 hbW10.size
  clear zW9_248
  have HS_W10 := Lib.hid (HS_W9.out.below hbW10)
  clear HS_W9
  have BW10 : Below w.heap.size w W10 := BW9.trans (hbW10.mono BW9.size)
  clear hbW10 BW9
  go_wp2_with fail
  have K_a0 := cell_regrown a0_W10
  have K_a1 := cell_regrown a1_W10
  have K_a2 := cell_regrown a2_W10
  have K_a3 := cell_regrown a3_W10
  have K_e0 := cell_regrown e0_W10
  have K_e1 := cell_regrown e1_W10
  have K_e2 := cell_regrown e2_W10
  have K_e3 := cell_regrown e3_W10
  have K_v0 := cell_regrown v0_W10
  have K_v1 := cell_regrown v1_W10
  have K_v2 := cell_regrown v2_W10
  have K_v3 := cell_regrown v3_W10
  clear a0_W10 a1_W10 a2_W10 a3_W10 e0_W10 e1_W10 e2_W10 e3_W10 v0_W10 v1_W10 v2_W10 v3_W10
  have cC0 := fun (d : Nat) (os : Array Obj) => Calls.regrown_of (ref_far_is r c b p n X (Go.Sort.grow (redrawn W10 d) os) cc0 cc1 hn0 hn hX.out)
  refine wp_region_quiet_below (by kernel_rfl) (by kernel_rfl) ?_
  repeat (first | go_big_quiet_step (exact cC0 _ _) | quiet_step (exact cC0 _ _))
  refine wpQuiet_nil ?_
  intro _ hw'
  obtain ⟨⟨dq, osq⟩, hw''⟩ := hw'
  subst hw''
  have hbW11 := below_regrown W10 dq osq
  have a0_W11 := K_a0 dq osq
  have a1_W11 := K_a1 dq osq
  have a2_W11 := K_a2 dq osq
  have a3_W11 := K_a3 dq osq
  have e0_W11 := K_e0 dq osq
  have e1_W11 := K_e1 dq osq
  have e2_W11 := K_e2 dq osq
  have e3_W11 := K_e3 dq osq
  have v0_W11 := K_v0 dq osq
  have v1_W11 := K_v1 dq osq
  have v2_W11 := K_v2 dq osq
  have v3_W11 := K_v3 dq osq
  clear K_a0 K_a1 K_a2 K_a3 K_e0 K_e1 K_e2 K_e3 K_v0 K_v1 K_v2 K_v3 cC0 
  have zW11_316 : w.heap.size < (Go.Sort.grow (redrawn W10 dq) osq).heap.size := Nat.lt_of_lt_of_le zW10_271 hbW11.size
  clear zW10_271
  have zW11_318 : nb < (Go.Sort.grow (redrawn W10 dq) osq).heap.size := Nat.lt_of_lt_of_le zW10_273 hbW11.size
  clear zW10_273
  have zW11_320 : nW3 < (Go.Sort.grow (redrawn W10 dq) osq).heap.size := Nat.lt_of_lt_of_le zW10_275 hbW11.size
  clear zW10_275
  have HS_W11 := Lib.hid (HS_W10.out.below hbW11)
  clear HS_W10
  have BW11 : Below w.heap.size w (Go.Sort.grow (redrawn W10 dq) osq) := BW10.trans (hbW11.mono BW10.size)
  clear hbW11 BW10
  generalize Go.Sort.grow (redrawn W10 dq) osq = W11 at *
  go_wp2_with fail
  go_at_call 17
  (with_reducible refine (ref_all_is _ _ _ _ _ (by omega) HS_W11.out HL.out).mono ?_)
  rintro e W12 ⟨rfl, hbW12⟩
  have a0_W12 : W12.cell? ⟨w.heap.size, 0, none⟩ = some (.int .i64 r) := (hbW12.cell (p := ⟨w.heap.size, _, none⟩) zW11_316).trans a0_W11
  have a1_W12 : W12.cell? ⟨w.heap.size, 1, none⟩ = some (.int .i64 c) := (hbW12.cell (p := ⟨w.heap.size, _, none⟩) zW11_316).trans a1_W11
  have a2_W12 : W12.cell? ⟨w.heap.size, 2, none⟩ = some (.int .i64 b) := (hbW12.cell (p := ⟨w.heap.size, _, none⟩) zW11_316).trans a2_W11
  have a3_W12 : W12.cell? ⟨w.heap.size, 3, none⟩ = some (.int .i64 p) := (hbW12.cell (p := ⟨w.heap.size, _, none⟩) zW11_316).trans a3_W11
  have e0_W12 : W12.cell? ⟨nb, 0, none⟩ = some (.int .i64 r2) := (hbW12.cell (p := ⟨nb, _, none⟩) zW11_318).trans e0_W11
  have e1_W12 : W12.cell? ⟨nb, 1, none⟩ = some (.int .i64 c2) := (hbW12.cell (p := ⟨nb, _, none⟩) zW11_318).trans e1_W11
  have e2_W12 : W12.cell? ⟨nb, 2, none⟩ = some (.int .i64 b2) := (hbW12.cell (p := ⟨nb, _, none⟩) zW11_318).trans e2_W11
  have e3_W12 : W12.cell? ⟨nb, 3, none⟩ = some (.int .i64 p2) := (hbW12.cell (p := ⟨nb, _, none⟩) zW11_318).trans e3_W11
  have v0_W12 : W12.cell? ⟨nW3, 0, none⟩ = some (.int .i64 r) := (hbW12.cell (p := ⟨nW3, _, none⟩) zW11_320).trans v0_W11
  have v1_W12 : W12.cell? ⟨nW3, 1, none⟩ = some (.int .i64 X) := (hbW12.cell (p := ⟨nW3, _, none⟩) zW11_320).trans v1_W11
  have v2_W12 : W12.cell? ⟨nW3, 2, none⟩ = some (.int .i64 b) := (hbW12.cell (p := ⟨nW3, _, none⟩) zW11_320).trans v2_W11
  have v3_W12 : W12.cell? ⟨nW3, 3, none⟩ = some (.int .i64 p) := (hbW12.cell (p := ⟨nW3, _, none⟩) zW11_320).trans v3_W11
  clear a0_W11 a1_W11 a2_W11 a3_W11 e0_W11 e1_W11 e2_W11 e3_W11 v0_W11 v1_W11 v2_W11 v3_W11
  have zW12_344 : w.heap.size < W12.heap.size := Nat.lt_of_lt_of_le zW11_316 hbW12.size
  clear zW11_316
  have zW12_346 : nb < W12.heap.size := Nat.lt_of_lt_of_le zW11_318 hbW12.size
  clear zW11_318
  have zW12_348 : nW3 < W12.heap.size := Nat.lt_of_lt_of_le zW11_320 hbW12.size
  clear zW11_320
  have HS_W12 := Lib.hid (HS_W11.out.below hbW12)
  clear HS_W11
  have BW12 : Below w.heap.size w W12 := BW11.trans (hbW12.mono BW11.size)
  clear hbW12 BW11
  clear a0_W12
  clear a1_W12
  clear a2_W12
  clear a3_W12
  clear e0_W12
  clear e1_W12
  clear e2_W12
  clear e3_W12
  clear v0_W12
  clear v1_W12
  clear v2_W12
  clear v3_W12
  go_wp2_with fail
  go_ret
  exact ⟨rfl, BW12⟩

end Go.Proofs.Ytanceablbmgblaa.VecP
