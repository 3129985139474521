/-
  The statements' few, of a tree.
-/
import Derived.Test.YtidoaccidmmalaaStpF
import Derived.Test.YtidoaccidmmalaaStpB
import Derived.Test.YtidoaccidmmalaaRegSts
import Derived.Test.YtidoaccidmmalaaStpE
import Derived.Test.YtidoaccidmmalaaStpO
namespace Go.Proofs.Ytidoaccidmmalaa.StpP
open Go.Proofs.Ytidoaccidmmalaa.MacP (arr_out Wrote wp_region_ends outM wp_region_sts outS)
open Go.RowKit Go.Sort Go.Proofs.Ytidoaccidmmalaa.SliceP Go.Proofs.Ytidoaccidmmalaa.BoxP Go.Proofs.Ytidoaccidmmalaa.VecP Go.Proofs.Ytidoaccidmmalaa.RoleP
open Go.Proofs.Ytidoaccidmmalaa.IntP (RowI SlI OwnI)
open Go.Proofs.Ytidoaccidmmalaa.BoolP (RowB SlB OwnB)
open Go.Proofs.Ytidoaccidmmalaa.PortP (okS roleS tickS sv)
set_option linter.unusedVariables false
set_option maxRecDepth 100000
set_option maxHeartbeats 16000000 in
theorem few_values {AC AU AI AS : Option Addr} {nC nU nI nS cC cU cI cS : Nat} (id mx dl : Int) {w : World} (h1 : nC ≤ cC) (h2 : nU ≤ cU) (h3 : nI ≤ cI) (h4 : nS ≤ cS) (k1 : cC ≤ 9223372036854775807) (k2 : cU ≤ 9223372036854775807) (k3 : cI ≤ 9223372036854775807) (k4 : cS ≤ 9223372036854775807) (mC mU mI mS : Nat) (m1 : mC = min nC 12) (m2 : mU = min nU 12) (m3 : mI = min nI 12) (m4 : mS = min nS 12) :
    Calls Try.prog 6 #[.agg #[.int .i64 id, .slice AC nC cC, .slice AU nU cU, .slice AI nI cI, .slice AS nS cS, .int .i64 mx, .int .i64 dl]] w fun e w' => e = .returned (.agg #[.int .i64 id, .slice AC mC cC, .slice AU mU cU, .slice AI mI cI, .slice AS mS cS, .int .i64 mx, .int .i64 dl]) ∧ Below w.heap.size w w' := by
  have qC : min (nC : Int) 12 = (mC : Int) := by omega
  have pC : (if (12 : Int) < (nC : Int) then (12 : Int) else (nC : Int)) = (mC : Int) := by split <;> omega
  have rC : mC ≤ cC := by omega
  have qU : min (nU : Int) 12 = (mU : Int) := by omega
  have pU : (if (12 : Int) < (nU : Int) then (12 : Int) else (nU : Int)) = (mU : Int) := by split <;> omega
  have rU : mU ≤ cU := by omega
  have qI : min (nI : Int) 12 = (mI : Int) := by omega
  have pI : (if (12 : Int) < (nI : Int) then (12 : Int) else (nI : Int)) = (mI : Int) := by split <;> omega
  have rI : mI ≤ cI := by omega
  have qS : min (nS : Int) 12 = (mS : Int) := by omega
  have pS : (if (12 : Int) < (nS : Int) then (12 : Int) else (nS : Int)) = (mS : Int) := by split <;> omega
  have rS : mS ≤ cS := by omega
  replace m1 := Lib.hid m1
  replace m2 := Lib.hid m2
  replace m3 := Lib.hid m3
  replace m4 := Lib.hid m4
  obtain ⟨w0, hw0⟩ : ∃ W, W = (w.alloc (.cells #[.int .i64 id, .slice AC nC cC, .slice AU nU cU, .slice AI nI cI, .slice AS nS cS, .int .i64 mx, .int .i64 dl] 29)).alloc (.cells #[.int .i64 0, .slice none 0 0, .slice none 0 0, .slice none 0 0, .slice none 0 0, .int .i64 0, .int .i64 0] 29) := ⟨_, rfl⟩
  have B0 := Lib.hid (show Below w.heap.size w w0 by rw [hw0]; exact ((Below.refl _ _).alloc (Nat.le_refl _) _).alloc (by simp) _)
  have S0 := Lib.hid (show Bx w0 w.heap.size 29 #[.int .i64 id, .slice AC nC cC, .slice AU nU cU, .slice AI nI cI, .slice AS nS cS, .int .i64 mx, .int .i64 dl] by rw [hw0]; exact (Bx.new _ _ _ rfl).alloc _)
  have X0 := Lib.hid (show Bx w0 (w.heap.size + 1) 29 #[.int .i64 0, .slice none 0 0, .slice none 0 0, .slice none 0 0, .slice none 0 0, .int .i64 0, .int .i64 0] by rw [hw0]; exact Bx.new _ _ _ (by simp))
  have e0 := Lib.hid (show w.heap.size + 1 + 1 = w0.heap.size by rw [hw0]; simp)
  go_enter Try.func6, Try.ntmps6
  go_upto_region 1 with fail
  rw [← hw0]
  clear hw0
  have zS := S0.out.lt
  have o0 := S0.out.c (i := 0) rfl
  have o1 := S0.out.c (i := 1) rfl
  have o2 := S0.out.c (i := 2) rfl
  have o3 := S0.out.c (i := 3) rfl
  have o4 := S0.out.c (i := 4) rfl
  have o5 := S0.out.c (i := 5) rfl
  have o6 := S0.out.c (i := 6) rfl
  go_upto_region 2 with fail
  clear zS o0 o1 o2 o3 o4 o5 o6
  obtain ⟨w1, hw1⟩ : ∃ W, W = w0.alloc (.cells #[.int .i64 id, .slice AC nC cC, .slice AU nU cU, .slice AI nI cI] 26) := ⟨_, rfl⟩
  have b1 : Below w0.heap.size w0 w1 := by rw [hw1]; exact (Below.refl _ _).alloc (Nat.le_refl _) _
  have Y1 := Lib.hid (show Bx w1 w0.heap.size 26 #[.int .i64 id, .slice AC nC cC, .slice AU nU cU, .slice AI nI cI] by rw [hw1]; exact Bx.new _ _ _ rfl)
  have S1 := Lib.hid (S0.out.below b1)
  have X1 := Lib.hid (X0.out.below b1)
  have B1 := Lib.hid (bt B0.out b1)
  have n1 := Lib.hid (show w0.heap.size < w1.heap.size from Y1.out.lt)
  rw [← hw1]
  clear hw1 b1
  obtain ⟨v0, hv0⟩ : ∃ W, W = w1.drew := ⟨_, rfl⟩
  have bd : Below w1.heap.size w1 v0 := by rw [hv0]; exact (Below.refl _ _).drew
  have Y := Lib.hid (Y1.out.below bd)
  have S := Lib.hid (S1.out.below bd)
  have X := Lib.hid (X1.out.below bd)
  have B := Lib.hid (bt B1.out bd)
  have nY := Lib.hid (Nat.lt_of_lt_of_le n1.out bd.size)
  obtain ⟨s1, hs1⟩ : ∃ W, W = v0.setCell ⟨w0.heap.size, 1, none⟩ (.slice AC mC cC) := ⟨_, rfl⟩
  obtain ⟨s2, hs2⟩ : ∃ W, W = s1.setCell ⟨w0.heap.size, 2, none⟩ (.slice AU mU cU) := ⟨_, rfl⟩
  obtain ⟨s3, hs3⟩ : ∃ W, W = s2.setCell ⟨w0.heap.size, 3, none⟩ (.slice AI mI cI) := ⟨_, rfl⟩
  have Ys1 := Lib.hid (show Bx s1 w0.heap.size 26 #[.int .i64 id, .slice AC mC cC, .slice AU nU cU, .slice AI nI cI] by rw [hs1]; exact Y.out.set 1 _)
  have Ys2 := Lib.hid (show Bx s2 w0.heap.size 26 #[.int .i64 id, .slice AC mC cC, .slice AU mU cU, .slice AI nI cI] by rw [hs2]; exact Ys1.out.set 2 _)
  have Ys3 := Lib.hid (show Bx s3 w0.heap.size 26 #[.int .i64 id, .slice AC mC cC, .slice AU mU cU, .slice AI mI cI] by rw [hs3]; exact Ys2.out.set 3 _)
  have hge : w.heap.size ≤ w0.heap.size := by have := e0.out; omega
  have hwS : w.heap.size ≠ w0.heap.size := by have := e0.out; omega
  have hwX : w.heap.size + 1 ≠ w0.heap.size := by have := e0.out; omega
  have S3 := Lib.hid (show Bx s3 w.heap.size 29 #[.int .i64 id, .slice AC nC cC, .slice AU nU cU, .slice AI nI cI, .slice AS nS cS, .int .i64 mx, .int .i64 dl] by rw [hs3, hs2, hs1]; exact ((S.out.other hwS _ _).other hwS _ _).other hwS _ _)
  have X3 := Lib.hid (show Bx s3 (w.heap.size + 1) 29 #[.int .i64 0, .slice none 0 0, .slice none 0 0, .slice none 0 0, .slice none 0 0, .int .i64 0, .int .i64 0] by rw [hs3, hs2, hs1]; exact ((X.out.other hwX _ _).other hwX _ _).other hwX _ _)
  have B3 := Lib.hid (show Below w.heap.size w s3 by rw [hs3, hs2, hs1]; exact ((B.out.setCell hge _).setCell hge _).setCell hge _)
  replace hge := Lib.hid hge
  replace hwS := Lib.hid hwS
  replace hwX := Lib.hid hwX
  replace hv0 := Lib.hid hv0
  replace hs1 := Lib.hid hs1
  replace hs2 := Lib.hid hs2
  replace hs3 := Lib.hid hs3
  clear bd B1 X1 S1 Y1 n1
  refine wp_region_sts (by kernel_rfl) (fun ix => match ix with | 0 => 6 | 1 => 7 | 2 => 8 | 3 => 9 | 4 => 10 | 5 => 11 | 6 => 12 | 7 => 13 | 8 => 14 | 9 => 15 | 10 => 16 | 11 => 17 | 12 => 18 | 13 => 19 | 14 => 20 | 15 => 21 | 16 => 22 | 17 => 23 | 18 => 24 | 19 => 25 | 20 => 26 | 21 => 27 | 23 => 28 | 25 => 29 | _ => 0) (fun ix => match ix with | 22 => some 0 | 24 => some 1 | 26 => some 2 | _ => none) (fun ix => match ix with | 0 => 22 | 1 => 24 | 2 => 26 | _ => 0) 3 (fun ix => match ix with | 1 => true | 3 => true | 8 => true | 10 => true | 15 => true | 17 => true | _ => false) (by kernel_rfl) (fun ix v => match ix with | 0 => v = .pointer (some ⟨w0.heap.size, 1, none⟩) | 1 => v = .slice AC nC cC | 2 => v = .pointer (some ⟨w0.heap.size, 1, none⟩) | 3 => v = .slice AC nC cC | 4 => v = .int .i64 nC | 5 => v = .int .i64 mC | 6 => v = .slice AC mC cC | 7 => v = .pointer (some ⟨w0.heap.size, 2, none⟩) | 8 => v = .slice AU nU cU | 9 => v = .pointer (some ⟨w0.heap.size, 2, none⟩) | 10 => v = .slice AU nU cU | 11 => v = .int .i64 nU | 12 => v = .int .i64 mU | 13 => v = .slice AU mU cU | 14 => v = .pointer (some ⟨w0.heap.size, 3, none⟩) | 15 => v = .slice AI nI cI | 16 => v = .pointer (some ⟨w0.heap.size, 3, none⟩) | 17 => v = .slice AI nI cI | 18 => v = .int .i64 nI | 19 => v = .int .i64 mI | 20 => v = .slice AI mI cI | 21 => v = .pointer (some ⟨w0.heap.size, 1, none⟩) | 23 => v = .pointer (some ⟨w0.heap.size, 2, none⟩) | 25 => v = .pointer (some ⟨w0.heap.size, 3, none⟩) | _ => True) (fun k => match k with | 0 => v0 | 1 => s1 | 2 => s2 | _ => s3) (by show v0 = _; rw [hv0.out]; rfl) ?_ ?_
  refine ⟨?_, ?_, ?_, ?_, ?_, ?_, ?_, ?_, ?_, ?_, ?_, ?_, ?_, ?_, ?_, ?_, ?_, ?_, ?_, ?_, ?_, ?_, ?_, ?_, ?_, ?_, ?_, trivial⟩
  · as_aux_lemma =>
      intro a W K hrd hdep hk hK hs
      replace hK : ∀ v, v = .pointer (some ⟨w0.heap.size, 1, none⟩) → K (a.put (some 6) v) W := hK
      have d3 : a.tmps.getD 3 undef = .pointer (some ⟨w0.heap.size, 0, none⟩) := hk 3 (by kernel_rfl)
      clear hdep hk hrd hs
      go_simp
      exact hK _ rfl
  · as_aux_lemma =>
      intro a W K hrd hdep hk hK hs
      replace hK : ∀ v, v = .slice AC nC cC → K (a.put (some 7) v) W := hK
      have hW : v0 = W := (hrd rfl).symm
      subst hW
      have d6 : a.tmps.getD 6 undef = .pointer (some ⟨w0.heap.size, 1, none⟩) := hdep ⟨0, .data⟩ (by simp) rfl rfl
      have zY := Y.out.lt
      have y0 := Y.out.c (i := 0) rfl
      have y1 := Y.out.c (i := 1) rfl
      have y2 := Y.out.c (i := 2) rfl
      have y3 := Y.out.c (i := 3) rfl
      clear hdep hk hrd hs
      go_simp
      exact hK _ rfl
  · as_aux_lemma =>
      intro a W K hrd hdep hk hK hs
      replace hK : ∀ v, v = .pointer (some ⟨w0.heap.size, 1, none⟩) → K (a.put (some 8) v) W := hK
      have d3 : a.tmps.getD 3 undef = .pointer (some ⟨w0.heap.size, 0, none⟩) := hk 3 (by kernel_rfl)
      clear hdep hk hrd hs
      go_simp
      exact hK _ rfl
  · as_aux_lemma =>
      intro a W K hrd hdep hk hK hs
      replace hK : ∀ v, v = .slice AC nC cC → K (a.put (some 9) v) W := hK
      have hW : v0 = W := (hrd rfl).symm
      subst hW
      have d8 : a.tmps.getD 8 undef = .pointer (some ⟨w0.heap.size, 1, none⟩) := hdep ⟨2, .data⟩ (by simp) rfl rfl
      have zY := Y.out.lt
      have y0 := Y.out.c (i := 0) rfl
      have y1 := Y.out.c (i := 1) rfl
      have y2 := Y.out.c (i := 2) rfl
      have y3 := Y.out.c (i := 3) rfl
      clear hdep hk hrd hs
      go_simp
      exact hK _ rfl
  · as_aux_lemma =>
      intro a W K hrd hdep hk hK hs
      replace hK : ∀ v, v = .int .i64 nC → K (a.put (some 10) v) W := hK
      have d9 : a.tmps.getD 9 undef = .slice AC nC cC := hdep ⟨3, .data⟩ (by simp) rfl rfl
      clear hdep hk hrd hs
      go_simp
      exact hK _ rfl
  · as_aux_lemma =>
      intro a W K hrd hdep hk hK hs
      replace hK : ∀ v, v = .int .i64 mC → K (a.put (some 11) v) W := hK
      have d10 : a.tmps.getD 10 undef = .int .i64 nC := hdep ⟨4, .data⟩ (by simp) rfl rfl
      clear hdep hk hrd hs
      go_simp
      exact hK _ rfl
  · as_aux_lemma =>
      intro a W K hrd hdep hk hK hs
      replace hK : ∀ v, v = .slice AC mC cC → K (a.put (some 12) v) W := hK
      have d7 : a.tmps.getD 7 undef = .slice AC nC cC := hdep ⟨1, .data⟩ (by simp) rfl rfl
      have d11 : a.tmps.getD 11 undef = .int .i64 mC := hdep ⟨5, .data⟩ (by simp) rfl rfl
      clear hdep hk hrd hs
      go_simp
      exact hK _ rfl
  · as_aux_lemma =>
      intro a W K hrd hdep hk hK hs
      replace hK : ∀ v, v = .pointer (some ⟨w0.heap.size, 2, none⟩) → K (a.put (some 13) v) W := hK
      have d3 : a.tmps.getD 3 undef = .pointer (some ⟨w0.heap.size, 0, none⟩) := hk 3 (by kernel_rfl)
      clear hdep hk hrd hs
      go_simp
      exact hK _ rfl
  · as_aux_lemma =>
      intro a W K hrd hdep hk hK hs
      replace hK : ∀ v, v = .slice AU nU cU → K (a.put (some 14) v) W := hK
      have hW : v0 = W := (hrd rfl).symm
      subst hW
      have d13 : a.tmps.getD 13 undef = .pointer (some ⟨w0.heap.size, 2, none⟩) := hdep ⟨7, .data⟩ (by simp) rfl rfl
      have zY := Y.out.lt
      have y0 := Y.out.c (i := 0) rfl
      have y1 := Y.out.c (i := 1) rfl
      have y2 := Y.out.c (i := 2) rfl
      have y3 := Y.out.c (i := 3) rfl
      clear hdep hk hrd hs
      go_simp
      exact hK _ rfl
  · as_aux_lemma =>
      intro a W K hrd hdep hk hK hs
      replace hK : ∀ v, v = .pointer (some ⟨w0.heap.size, 2, none⟩) → K (a.put (some 15) v) W := hK
      have d3 : a.tmps.getD 3 undef = .pointer (some ⟨w0.heap.size, 0, none⟩) := hk 3 (by kernel_rfl)
      clear hdep hk hrd hs
      go_simp
      exact hK _ rfl
  · as_aux_lemma =>
      intro a W K hrd hdep hk hK hs
      replace hK : ∀ v, v = .slice AU nU cU → K (a.put (some 16) v) W := hK
      have hW : v0 = W := (hrd rfl).symm
      subst hW
      have d15 : a.tmps.getD 15 undef = .pointer (some ⟨w0.heap.size, 2, none⟩) := hdep ⟨9, .data⟩ (by simp) rfl rfl
      have zY := Y.out.lt
      have y0 := Y.out.c (i := 0) rfl
      have y1 := Y.out.c (i := 1) rfl
      have y2 := Y.out.c (i := 2) rfl
      have y3 := Y.out.c (i := 3) rfl
      clear hdep hk hrd hs
      go_simp
      exact hK _ rfl
  · as_aux_lemma =>
      intro a W K hrd hdep hk hK hs
      replace hK : ∀ v, v = .int .i64 nU → K (a.put (some 17) v) W := hK
      have d16 : a.tmps.getD 16 undef = .slice AU nU cU := hdep ⟨10, .data⟩ (by simp) rfl rfl
      clear hdep hk hrd hs
      go_simp
      exact hK _ rfl
  · as_aux_lemma =>
      intro a W K hrd hdep hk hK hs
      replace hK : ∀ v, v = .int .i64 mU → K (a.put (some 18) v) W := hK
      have d17 : a.tmps.getD 17 undef = .int .i64 nU := hdep ⟨11, .data⟩ (by simp) rfl rfl
      clear hdep hk hrd hs
      go_simp
      exact hK _ rfl
  · as_aux_lemma =>
      intro a W K hrd hdep hk hK hs
      replace hK : ∀ v, v = .slice AU mU cU → K (a.put (some 19) v) W := hK
      have d14 : a.tmps.getD 14 undef = .slice AU nU cU := hdep ⟨8, .data⟩ (by simp) rfl rfl
      have d18 : a.tmps.getD 18 undef = .int .i64 mU := hdep ⟨12, .data⟩ (by simp) rfl rfl
      clear hdep hk hrd hs
      go_simp
      exact hK _ rfl
  · as_aux_lemma =>
      intro a W K hrd hdep hk hK hs
      replace hK : ∀ v, v = .pointer (some ⟨w0.heap.size, 3, none⟩) → K (a.put (some 20) v) W := hK
      have d3 : a.tmps.getD 3 undef = .pointer (some ⟨w0.heap.size, 0, none⟩) := hk 3 (by kernel_rfl)
      clear hdep hk hrd hs
      go_simp
      exact hK _ rfl
  · as_aux_lemma =>
      intro a W K hrd hdep hk hK hs
      replace hK : ∀ v, v = .slice AI nI cI → K (a.put (some 21) v) W := hK
      have hW : v0 = W := (hrd rfl).symm
      subst hW
      have d20 : a.tmps.getD 20 undef = .pointer (some ⟨w0.heap.size, 3, none⟩) := hdep ⟨14, .data⟩ (by simp) rfl rfl
      have zY := Y.out.lt
      have y0 := Y.out.c (i := 0) rfl
      have y1 := Y.out.c (i := 1) rfl
      have y2 := Y.out.c (i := 2) rfl
      have y3 := Y.out.c (i := 3) rfl
      clear hdep hk hrd hs
      go_simp
      exact hK _ rfl
  · as_aux_lemma =>
      intro a W K hrd hdep hk hK hs
      replace hK : ∀ v, v = .pointer (some ⟨w0.heap.size, 3, none⟩) → K (a.put (some 22) v) W := hK
      have d3 : a.tmps.getD 3 undef = .pointer (some ⟨w0.heap.size, 0, none⟩) := hk 3 (by kernel_rfl)
      clear hdep hk hrd hs
      go_simp
      exact hK _ rfl
  · as_aux_lemma =>
      intro a W K hrd hdep hk hK hs
      replace hK : ∀ v, v = .slice AI nI cI → K (a.put (some 23) v) W := hK
      have hW : v0 = W := (hrd rfl).symm
      subst hW
      have d22 : a.tmps.getD 22 undef = .pointer (some ⟨w0.heap.size, 3, none⟩) := hdep ⟨16, .data⟩ (by simp) rfl rfl
      have zY := Y.out.lt
      have y0 := Y.out.c (i := 0) rfl
      have y1 := Y.out.c (i := 1) rfl
      have y2 := Y.out.c (i := 2) rfl
      have y3 := Y.out.c (i := 3) rfl
      clear hdep hk hrd hs
      go_simp
      exact hK _ rfl
  · as_aux_lemma =>
      intro a W K hrd hdep hk hK hs
      replace hK : ∀ v, v = .int .i64 nI → K (a.put (some 24) v) W := hK
      have d23 : a.tmps.getD 23 undef = .slice AI nI cI := hdep ⟨17, .data⟩ (by simp) rfl rfl
      clear hdep hk hrd hs
      go_simp
      exact hK _ rfl
  · as_aux_lemma =>
      intro a W K hrd hdep hk hK hs
      replace hK : ∀ v, v = .int .i64 mI → K (a.put (some 25) v) W := hK
      have d24 : a.tmps.getD 24 undef = .int .i64 nI := hdep ⟨18, .data⟩ (by simp) rfl rfl
      clear hdep hk hrd hs
      go_simp
      exact hK _ rfl
  · as_aux_lemma =>
      intro a W K hrd hdep hk hK hs
      replace hK : ∀ v, v = .slice AI mI cI → K (a.put (some 26) v) W := hK
      have d21 : a.tmps.getD 21 undef = .slice AI nI cI := hdep ⟨15, .data⟩ (by simp) rfl rfl
      have d25 : a.tmps.getD 25 undef = .int .i64 mI := hdep ⟨19, .data⟩ (by simp) rfl rfl
      clear hdep hk hrd hs
      go_simp
      exact hK _ rfl
  · as_aux_lemma =>
      intro a W K hrd hdep hk hK hs
      replace hK : ∀ v, v = .pointer (some ⟨w0.heap.size, 1, none⟩) → K (a.put (some 27) v) W := hK
      have d3 : a.tmps.getD 3 undef = .pointer (some ⟨w0.heap.size, 0, none⟩) := hk 3 (by kernel_rfl)
      clear hdep hk hrd hs
      go_simp
      exact hK _ rfl
  · as_aux_lemma =>
      intro a W K hrd hdep hk hK hs
      have hW : v0 = W := (hs 0 rfl).symm
      subst hW
      have d27 : a.tmps.getD 27 undef = .pointer (some ⟨w0.heap.size, 1, none⟩) := hdep ⟨21, .data⟩ (by simp) rfl rfl
      have d12 : a.tmps.getD 12 undef = .slice AC mC cC := hdep ⟨6, .data⟩ (by simp) rfl rfl
      clear hdep hk hrd hs
      have zY := Y.out.lt
      have y0 := Y.out.c (i := 0) rfl
      have f0 := Y.out.f 0
      have y1 := Y.out.c (i := 1) rfl
      have f1 := Y.out.f 1
      have y2 := Y.out.c (i := 2) rfl
      have f2 := Y.out.f 2
      have y3 := Y.out.c (i := 3) rfl
      have f3 := Y.out.f 3
      replace hK : K a s1 := hK
      rw [hs1.out] at hK
      go_simp
      exact hK
  · as_aux_lemma =>
      intro a W K hrd hdep hk hK hs
      replace hK : ∀ v, v = .pointer (some ⟨w0.heap.size, 2, none⟩) → K (a.put (some 28) v) W := hK
      have d3 : a.tmps.getD 3 undef = .pointer (some ⟨w0.heap.size, 0, none⟩) := hk 3 (by kernel_rfl)
      clear hdep hk hrd hs
      go_simp
      exact hK _ rfl
  · as_aux_lemma =>
      intro a W K hrd hdep hk hK hs
      have hW : s1 = W := (hs 1 rfl).symm
      subst hW
      have d28 : a.tmps.getD 28 undef = .pointer (some ⟨w0.heap.size, 2, none⟩) := hdep ⟨23, .data⟩ (by simp) rfl rfl
      have d19 : a.tmps.getD 19 undef = .slice AU mU cU := hdep ⟨13, .data⟩ (by simp) rfl rfl
      clear hdep hk hrd hs
      have zY := Ys1.out.lt
      have y0 := Ys1.out.c (i := 0) rfl
      have f0 := Ys1.out.f 0
      have y1 := Ys1.out.c (i := 1) rfl
      have f1 := Ys1.out.f 1
      have y2 := Ys1.out.c (i := 2) rfl
      have f2 := Ys1.out.f 2
      have y3 := Ys1.out.c (i := 3) rfl
      have f3 := Ys1.out.f 3
      replace hK : K a s2 := hK
      rw [hs2.out] at hK
      go_simp
      exact hK
  · as_aux_lemma =>
      intro a W K hrd hdep hk hK hs
      replace hK : ∀ v, v = .pointer (some ⟨w0.heap.size, 3, none⟩) → K (a.put (some 29) v) W := hK
      have d3 : a.tmps.getD 3 undef = .pointer (some ⟨w0.heap.size, 0, none⟩) := hk 3 (by kernel_rfl)
      clear hdep hk hrd hs
      go_simp
      exact hK _ rfl
  · as_aux_lemma =>
      intro a W K hrd hdep hk hK hs
      have hW : s2 = W := (hs 2 rfl).symm
      subst hW
      have d29 : a.tmps.getD 29 undef = .pointer (some ⟨w0.heap.size, 3, none⟩) := hdep ⟨25, .data⟩ (by simp) rfl rfl
      have d26 : a.tmps.getD 26 undef = .slice AI mI cI := hdep ⟨20, .data⟩ (by simp) rfl rfl
      clear hdep hk hrd hs
      have zY := Ys2.out.lt
      have y0 := Ys2.out.c (i := 0) rfl
      have f0 := Ys2.out.f 0
      have y1 := Ys2.out.c (i := 1) rfl
      have f1 := Ys2.out.f 1
      have y2 := Ys2.out.c (i := 2) rfl
      have f2 := Ys2.out.f 2
      have y3 := Ys2.out.c (i := 3) rfl
      have f3 := Ys2.out.f 3
      replace hK : K a s3 := hK
      rw [hs3.out] at hK
      go_simp
      exact hK
  intro a hsp hk hn hdf
  have s1 : a.tmps.getD 1 undef = .pointer (some ⟨w.heap.size, 0, none⟩) := hk 1 (by kernel_rfl)
  have s2 : a.tmps.getD 2 undef = .pointer (some ⟨w.heap.size + 1, 0, none⟩) := hk 2 (by kernel_rfl)
  have s3 : a.tmps.getD 3 undef = .pointer (some ⟨w0.heap.size, 0, none⟩) := hk 3 (by kernel_rfl)
  clear hk hsp
  obtain ⟨tm, df⟩ := a
  have e := arr_out tm 41 hn
  replace e : tm = #[tm.getD 0 undef, tm.getD 1 undef, tm.getD 2 undef, tm.getD 3 undef, tm.getD 4 undef, tm.getD 5 undef, tm.getD 6 undef, tm.getD 7 undef, tm.getD 8 undef, tm.getD 9 undef, tm.getD 10 undef, tm.getD 11 undef, tm.getD 12 undef, tm.getD 13 undef, tm.getD 14 undef, tm.getD 15 undef, tm.getD 16 undef, tm.getD 17 undef, tm.getD 18 undef, tm.getD 19 undef, tm.getD 20 undef, tm.getD 21 undef, tm.getD 22 undef, tm.getD 23 undef, tm.getD 24 undef, tm.getD 25 undef, tm.getD 26 undef, tm.getD 27 undef, tm.getD 28 undef, tm.getD 29 undef, tm.getD 30 undef, tm.getD 31 undef, tm.getD 32 undef, tm.getD 33 undef, tm.getD 34 undef, tm.getD 35 undef, tm.getD 36 undef, tm.getD 37 undef, tm.getD 38 undef, tm.getD 39 undef, tm.getD 40 undef] := e
  simp only at s1 s2 s3 hdf
  rw [s1, s2, s3] at e
  subst hdf
  clear s1 s2 s3 hn
  generalize tm.getD 0 undef = u0 at e
  generalize tm.getD 4 undef = u4 at e
  generalize tm.getD 5 undef = u5 at e
  generalize tm.getD 6 undef = u6 at e
  generalize tm.getD 7 undef = u7 at e
  generalize tm.getD 8 undef = u8 at e
  generalize tm.getD 9 undef = u9 at e
  generalize tm.getD 10 undef = u10 at e
  generalize tm.getD 11 undef = u11 at e
  generalize tm.getD 12 undef = u12 at e
  generalize tm.getD 13 undef = u13 at e
  generalize tm.getD 14 undef = u14 at e
  generalize tm.getD 15 undef = u15 at e
  generalize tm.getD 16 undef = u16 at e
  generalize tm.getD 17 undef = u17 at e
  generalize tm.getD 18 undef = u18 at e
  generalize tm.getD 19 undef = u19 at e
  generalize tm.getD 20 undef = u20 at e
  generalize tm.getD 21 undef = u21 at e
  generalize tm.getD 22 undef = u22 at e
  generalize tm.getD 23 undef = u23 at e
  generalize tm.getD 24 undef = u24 at e
  generalize tm.getD 25 undef = u25 at e
  generalize tm.getD 26 undef = u26 at e
  generalize tm.getD 27 undef = u27 at e
  generalize tm.getD 28 undef = u28 at e
  generalize tm.getD 29 undef = u29 at e
  generalize tm.getD 30 undef = u30 at e
  generalize tm.getD 31 undef = u31 at e
  generalize tm.getD 32 undef = u32 at e
  generalize tm.getD 33 undef = u33 at e
  generalize tm.getD 34 undef = u34 at e
  generalize tm.getD 35 undef = u35 at e
  generalize tm.getD 36 undef = u36 at e
  generalize tm.getD 37 undef = u37 at e
  generalize tm.getD 38 undef = u38 at e
  generalize tm.getD 39 undef = u39 at e
  generalize tm.getD 40 undef = u40 at e
  subst e
  simp only [Exit.then]
  clear hs1 hs2 hs3 hv0 Y S X B nY Ys1 Ys2
  obtain ⟨v0, hv0⟩ : ∃ W, W = s3.drew := ⟨_, rfl⟩
  have bd : Below s3.heap.size s3 v0 := by rw [hv0]; exact (Below.refl _ _).drew
  have Y := Lib.hid (Ys3.out.below bd)
  have S := Lib.hid (S3.out.below bd)
  have X := Lib.hid (X3.out.below bd)
  have B := Lib.hid (bt B3.out bd)
  obtain ⟨u1, hu1⟩ : ∃ W, W = (((v0.setCell ⟨w.heap.size, 0, none⟩ (.int .i64 id)).setCell ⟨w.heap.size, 1, none⟩ (.slice AC mC cC)).setCell ⟨w.heap.size, 2, none⟩ (.slice AU mU cU)).setCell ⟨w.heap.size, 3, none⟩ (.slice AI mI cI) := ⟨_, rfl⟩
  obtain ⟨u2, hu2⟩ : ∃ W, W = u1.setCell ⟨w.heap.size, 4, none⟩ (.slice AS mS cS) := ⟨_, rfl⟩
  have Su1 := Lib.hid (show Bx u1 w.heap.size 29 #[.int .i64 id, .slice AC mC cC, .slice AU mU cU, .slice AI mI cI, .slice AS nS cS, .int .i64 mx, .int .i64 dl] by
    rw [hu1]
    have h0 : Bx _ w.heap.size 29 #[.int .i64 id, .slice AC nC cC, .slice AU nU cU, .slice AI nI cI, .slice AS nS cS, .int .i64 mx, .int .i64 dl] := S.out.set 0 (.int .i64 id)
    have h1 : Bx _ w.heap.size 29 #[.int .i64 id, .slice AC mC cC, .slice AU nU cU, .slice AI nI cI, .slice AS nS cS, .int .i64 mx, .int .i64 dl] := h0.set 1 (.slice AC mC cC)
    have h2 : Bx _ w.heap.size 29 #[.int .i64 id, .slice AC mC cC, .slice AU mU cU, .slice AI nI cI, .slice AS nS cS, .int .i64 mx, .int .i64 dl] := h1.set 2 (.slice AU mU cU)
    exact h2.set 3 (.slice AI mI cI))
  have Su2 := Lib.hid (show Bx u2 w.heap.size 29 #[.int .i64 id, .slice AC mC cC, .slice AU mU cU, .slice AI mI cI, .slice AS mS cS, .int .i64 mx, .int .i64 dl] by rw [hu2]; exact Su1.out.set 4 _)
  have hne : w.heap.size + 1 ≠ w.heap.size := Nat.succ_ne_self _
  have Xu2 := Lib.hid (show Bx u2 (w.heap.size + 1) 29 #[.int .i64 0, .slice none 0 0, .slice none 0 0, .slice none 0 0, .slice none 0 0, .int .i64 0, .int .i64 0] by rw [hu2, hu1]; exact ((((X.out.other hne _ _).other hne _ _).other hne _ _).other hne _ _).other hne _ _)
  have Bu2 := Lib.hid (show Below w.heap.size w u2 by rw [hu2, hu1]; exact ((((B.out.setCell (Nat.le_refl _) _).setCell (Nat.le_refl _) _).setCell (Nat.le_refl _) _).setCell (Nat.le_refl _) _).setCell (Nat.le_refl _) _)
  clear hne bd
  replace hv0 := Lib.hid hv0
  replace hu1 := Lib.hid hu1
  replace hu2 := Lib.hid hu2
  go_upto_region 3 with fail
  refine wp_region_sts (by kernel_rfl) (fun ix => match ix with | 0 => 30 | 1 => 31 | 2 => 32 | 3 => 33 | 4 => 34 | 5 => 35 | 6 => 36 | 7 => 37 | 8 => 38 | 10 => 39 | _ => 0) (fun ix => match ix with | 9 => some 0 | 11 => some 1 | _ => none) (fun ix => match ix with | 0 => 9 | 1 => 11 | _ => 0) 2 (fun ix => match ix with | 0 => true | 2 => true | 4 => true | _ => false) (by kernel_rfl) (fun ix v => match ix with | 0 => v = .agg #[.int .i64 id, .slice AC mC cC, .slice AU mU cU, .slice AI mI cI] | 1 => v = .pointer (some ⟨w.heap.size, 4, none⟩) | 2 => v = .slice AS nS cS | 3 => v = .pointer (some ⟨w.heap.size, 4, none⟩) | 4 => v = .slice AS nS cS | 5 => v = .int .i64 nS | 6 => v = .int .i64 mS | 7 => v = .slice AS mS cS | 8 => v = .pointer (some ⟨w.heap.size, 0, none⟩) | 10 => v = .pointer (some ⟨w.heap.size, 4, none⟩) | _ => True) (fun k => match k with | 0 => v0 | 1 => u1 | _ => u2) (by show v0 = _; rw [hv0.out]; rfl) ?_ ?_
  refine ⟨?_, ?_, ?_, ?_, ?_, ?_, ?_, ?_, ?_, ?_, ?_, ?_, trivial⟩
  · as_aux_lemma =>
      intro a W K hrd hdep hk hK hs
      replace hK : ∀ v, v = .agg #[.int .i64 id, .slice AC mC cC, .slice AU mU cU, .slice AI mI cI] → K (a.put (some 30) v) W := hK
      have hW : v0 = W := (hrd rfl).symm
      subst hW
      have d3 : a.tmps.getD 3 undef = .pointer (some ⟨w0.heap.size, 0, none⟩) := hk 3 (by kernel_rfl)
      have zY := Y.out.lt
      have y0 := Y.out.c (i := 0) rfl
      have y1 := Y.out.c (i := 1) rfl
      have y2 := Y.out.c (i := 2) rfl
      have y3 := Y.out.c (i := 3) rfl
      clear hdep hk hrd hs
      go_simp
      exact hK _ rfl
  · as_aux_lemma =>
      intro a W K hrd hdep hk hK hs
      replace hK : ∀ v, v = .pointer (some ⟨w.heap.size, 4, none⟩) → K (a.put (some 31) v) W := hK
      have d1 : a.tmps.getD 1 undef = .pointer (some ⟨w.heap.size, 0, none⟩) := hk 1 (by kernel_rfl)
      clear hdep hk hrd hs
      go_simp
      exact hK _ rfl
  · as_aux_lemma =>
      intro a W K hrd hdep hk hK hs
      replace hK : ∀ v, v = .slice AS nS cS → K (a.put (some 32) v) W := hK
      have hW : v0 = W := (hrd rfl).symm
      subst hW
      have d31 : a.tmps.getD 31 undef = .pointer (some ⟨w.heap.size, 4, none⟩) := hdep ⟨1, .data⟩ (by simp) rfl rfl
      have zS := S.out.lt
      have o0 := S.out.c (i := 0) rfl
      have o1 := S.out.c (i := 1) rfl
      have o2 := S.out.c (i := 2) rfl
      have o3 := S.out.c (i := 3) rfl
      have o4 := S.out.c (i := 4) rfl
      have o5 := S.out.c (i := 5) rfl
      have o6 := S.out.c (i := 6) rfl
      clear hdep hk hrd hs
      go_simp
      exact hK _ rfl
  · as_aux_lemma =>
      intro a W K hrd hdep hk hK hs
      replace hK : ∀ v, v = .pointer (some ⟨w.heap.size, 4, none⟩) → K (a.put (some 33) v) W := hK
      have d1 : a.tmps.getD 1 undef = .pointer (some ⟨w.heap.size, 0, none⟩) := hk 1 (by kernel_rfl)
      clear hdep hk hrd hs
      go_simp
      exact hK _ rfl
  · as_aux_lemma =>
      intro a W K hrd hdep hk hK hs
      replace hK : ∀ v, v = .slice AS nS cS → K (a.put (some 34) v) W := hK
      have hW : v0 = W := (hrd rfl).symm
      subst hW
      have d33 : a.tmps.getD 33 undef = .pointer (some ⟨w.heap.size, 4, none⟩) := hdep ⟨3, .data⟩ (by simp) rfl rfl
      have zS := S.out.lt
      have o0 := S.out.c (i := 0) rfl
      have o1 := S.out.c (i := 1) rfl
      have o2 := S.out.c (i := 2) rfl
      have o3 := S.out.c (i := 3) rfl
      have o4 := S.out.c (i := 4) rfl
      have o5 := S.out.c (i := 5) rfl
      have o6 := S.out.c (i := 6) rfl
      clear hdep hk hrd hs
      go_simp
      exact hK _ rfl
  · as_aux_lemma =>
      intro a W K hrd hdep hk hK hs
      replace hK : ∀ v, v = .int .i64 nS → K (a.put (some 35) v) W := hK
      have d34 : a.tmps.getD 34 undef = .slice AS nS cS := hdep ⟨4, .data⟩ (by simp) rfl rfl
      clear hdep hk hrd hs
      go_simp
      exact hK _ rfl
  · as_aux_lemma =>
      intro a W K hrd hdep hk hK hs
      replace hK : ∀ v, v = .int .i64 mS → K (a.put (some 36) v) W := hK
      have d35 : a.tmps.getD 35 undef = .int .i64 nS := hdep ⟨5, .data⟩ (by simp) rfl rfl
      clear hdep hk hrd hs
      go_simp
      exact hK _ rfl
  · as_aux_lemma =>
      intro a W K hrd hdep hk hK hs
      replace hK : ∀ v, v = .slice AS mS cS → K (a.put (some 37) v) W := hK
      have d32 : a.tmps.getD 32 undef = .slice AS nS cS := hdep ⟨2, .data⟩ (by simp) rfl rfl
      have d36 : a.tmps.getD 36 undef = .int .i64 mS := hdep ⟨6, .data⟩ (by simp) rfl rfl
      clear hdep hk hrd hs
      go_simp
      exact hK _ rfl
  · as_aux_lemma =>
      intro a W K hrd hdep hk hK hs
      replace hK : ∀ v, v = .pointer (some ⟨w.heap.size, 0, none⟩) → K (a.put (some 38) v) W := hK
      have d1 : a.tmps.getD 1 undef = .pointer (some ⟨w.heap.size, 0, none⟩) := hk 1 (by kernel_rfl)
      clear hdep hk hrd hs
      go_simp
      exact hK _ rfl
  · as_aux_lemma =>
      intro a W K hrd hdep hk hK hs
      have hW : v0 = W := (hs 0 rfl).symm
      subst hW
      have d38 : a.tmps.getD 38 undef = .pointer (some ⟨w.heap.size, 0, none⟩) := hdep ⟨8, .data⟩ (by simp) rfl rfl
      have d30 : a.tmps.getD 30 undef = .agg #[.int .i64 id, .slice AC mC cC, .slice AU mU cU, .slice AI mI cI] := hdep ⟨0, .data⟩ (by simp) rfl rfl
      clear hdep hk hrd hs
      have zS := S.out.lt
      have o0 := S.out.c (i := 0) rfl
      have f0 := S.out.f 0
      have o1 := S.out.c (i := 1) rfl
      have f1 := S.out.f 1
      have o2 := S.out.c (i := 2) rfl
      have f2 := S.out.f 2
      have o3 := S.out.c (i := 3) rfl
      have f3 := S.out.f 3
      have o4 := S.out.c (i := 4) rfl
      have f4 := S.out.f 4
      have o5 := S.out.c (i := 5) rfl
      have f5 := S.out.f 5
      have o6 := S.out.c (i := 6) rfl
      have f6 := S.out.f 6
      replace hK : K a u1 := hK
      rw [hu1.out] at hK
      go_simp
      exact hK
  · as_aux_lemma =>
      intro a W K hrd hdep hk hK hs
      replace hK : ∀ v, v = .pointer (some ⟨w.heap.size, 4, none⟩) → K (a.put (some 39) v) W := hK
      have d1 : a.tmps.getD 1 undef = .pointer (some ⟨w.heap.size, 0, none⟩) := hk 1 (by kernel_rfl)
      clear hdep hk hrd hs
      go_simp
      exact hK _ rfl
  · as_aux_lemma =>
      intro a W K hrd hdep hk hK hs
      have hW : u1 = W := (hs 1 rfl).symm
      subst hW
      have d39 : a.tmps.getD 39 undef = .pointer (some ⟨w.heap.size, 4, none⟩) := hdep ⟨10, .data⟩ (by simp) rfl rfl
      have d37 : a.tmps.getD 37 undef = .slice AS mS cS := hdep ⟨7, .data⟩ (by simp) rfl rfl
      clear hdep hk hrd hs
      have zS := Su1.out.lt
      have o0 := Su1.out.c (i := 0) rfl
      have f0 := Su1.out.f 0
      have o1 := Su1.out.c (i := 1) rfl
      have f1 := Su1.out.f 1
      have o2 := Su1.out.c (i := 2) rfl
      have f2 := Su1.out.f 2
      have o3 := Su1.out.c (i := 3) rfl
      have f3 := Su1.out.f 3
      have o4 := Su1.out.c (i := 4) rfl
      have f4 := Su1.out.f 4
      have o5 := Su1.out.c (i := 5) rfl
      have f5 := Su1.out.f 5
      have o6 := Su1.out.c (i := 6) rfl
      have f6 := Su1.out.f 6
      replace hK : K a u2 := hK
      rw [hu2.out] at hK
      go_simp
      exact hK
  intro a hsp hk hn hdf
  have s1 : a.tmps.getD 1 undef = .pointer (some ⟨w.heap.size, 0, none⟩) := hk 1 (by kernel_rfl)
  have s2 : a.tmps.getD 2 undef = .pointer (some ⟨w.heap.size + 1, 0, none⟩) := hk 2 (by kernel_rfl)
  have s3 : a.tmps.getD 3 undef = .pointer (some ⟨w0.heap.size, 0, none⟩) := hk 3 (by kernel_rfl)
  clear hk hsp
  obtain ⟨tm, df⟩ := a
  have e := arr_out tm 41 hn
  replace e : tm = #[tm.getD 0 undef, tm.getD 1 undef, tm.getD 2 undef, tm.getD 3 undef, tm.getD 4 undef, tm.getD 5 undef, tm.getD 6 undef, tm.getD 7 undef, tm.getD 8 undef, tm.getD 9 undef, tm.getD 10 undef, tm.getD 11 undef, tm.getD 12 undef, tm.getD 13 undef, tm.getD 14 undef, tm.getD 15 undef, tm.getD 16 undef, tm.getD 17 undef, tm.getD 18 undef, tm.getD 19 undef, tm.getD 20 undef, tm.getD 21 undef, tm.getD 22 undef, tm.getD 23 undef, tm.getD 24 undef, tm.getD 25 undef, tm.getD 26 undef, tm.getD 27 undef, tm.getD 28 undef, tm.getD 29 undef, tm.getD 30 undef, tm.getD 31 undef, tm.getD 32 undef, tm.getD 33 undef, tm.getD 34 undef, tm.getD 35 undef, tm.getD 36 undef, tm.getD 37 undef, tm.getD 38 undef, tm.getD 39 undef, tm.getD 40 undef] := e
  simp only at s1 s2 s3 hdf
  rw [s1, s2, s3] at e
  subst hdf
  clear s1 s2 s3 hn
  generalize tm.getD 0 undef = u0 at e
  generalize tm.getD 4 undef = u4 at e
  generalize tm.getD 5 undef = u5 at e
  generalize tm.getD 6 undef = u6 at e
  generalize tm.getD 7 undef = u7 at e
  generalize tm.getD 8 undef = u8 at e
  generalize tm.getD 9 undef = u9 at e
  generalize tm.getD 10 undef = u10 at e
  generalize tm.getD 11 undef = u11 at e
  generalize tm.getD 12 undef = u12 at e
  generalize tm.getD 13 undef = u13 at e
  generalize tm.getD 14 undef = u14 at e
  generalize tm.getD 15 undef = u15 at e
  generalize tm.getD 16 undef = u16 at e
  generalize tm.getD 17 undef = u17 at e
  generalize tm.getD 18 undef = u18 at e
  generalize tm.getD 19 undef = u19 at e
  generalize tm.getD 20 undef = u20 at e
  generalize tm.getD 21 undef = u21 at e
  generalize tm.getD 22 undef = u22 at e
  generalize tm.getD 23 undef = u23 at e
  generalize tm.getD 24 undef = u24 at e
  generalize tm.getD 25 undef = u25 at e
  generalize tm.getD 26 undef = u26 at e
  generalize tm.getD 27 undef = u27 at e
  generalize tm.getD 28 undef = u28 at e
  generalize tm.getD 29 undef = u29 at e
  generalize tm.getD 30 undef = u30 at e
  generalize tm.getD 31 undef = u31 at e
  generalize tm.getD 32 undef = u32 at e
  generalize tm.getD 33 undef = u33 at e
  generalize tm.getD 34 undef = u34 at e
  generalize tm.getD 35 undef = u35 at e
  generalize tm.getD 36 undef = u36 at e
  generalize tm.getD 37 undef = u37 at e
  generalize tm.getD 38 undef = u38 at e
  generalize tm.getD 39 undef = u39 at e
  generalize tm.getD 40 undef = u40 at e
  subst e
  simp only [Exit.then]
  clear hu1 hu2 hv0 Y S X B Su1
  have zS := Su2.out.lt
  have zX := Xu2.out.lt
  have o0 := Su2.out.c (i := 0) rfl
  have x0 := Xu2.out.c (i := 0) rfl
  have f0 := Xu2.out.f 0
  have o1 := Su2.out.c (i := 1) rfl
  have x1 := Xu2.out.c (i := 1) rfl
  have f1 := Xu2.out.f 1
  have o2 := Su2.out.c (i := 2) rfl
  have x2 := Xu2.out.c (i := 2) rfl
  have f2 := Xu2.out.f 2
  have o3 := Su2.out.c (i := 3) rfl
  have x3 := Xu2.out.c (i := 3) rfl
  have f3 := Xu2.out.f 3
  have o4 := Su2.out.c (i := 4) rfl
  have x4 := Xu2.out.c (i := 4) rfl
  have f4 := Xu2.out.f 4
  have o5 := Su2.out.c (i := 5) rfl
  have x5 := Xu2.out.c (i := 5) rfl
  have f5 := Xu2.out.f 5
  have o6 := Su2.out.c (i := 6) rfl
  have x6 := Xu2.out.c (i := 6) rfl
  have f6 := Xu2.out.f 6
  go_wp2_with fail
  refine bodyPost_ret (v := .agg #[.int .i64 id, .slice AC mC cC, .slice AU mU cU, .slice AI mI cI, .slice AS mS cS, .int .i64 mx, .int .i64 dl]) (by simp [results, Try.results6, go_sem, x0, x1, x2, x3, x4, x5, x6]) rfl ⟨rfl, ?_⟩
  exact below7 Bu2.out (Nat.le_succ _) _ _ _ _ _ _ _
end Go.Proofs.Ytidoaccidmmalaa.StpP

/-
  The statements' few, of a tree that comes in; a row of costs, cut.
-/
namespace Go.Proofs.Ytidoaccidmmalaa.StpP
open Go.Proofs.Ytidoaccidmmalaa.MacP (arr_out Wrote wp_region_ends outM)
open Go.RowKit Go.Sort Go.Proofs.Ytidoaccidmmalaa.SliceP Go.Proofs.Ytidoaccidmmalaa.BoxP Go.Proofs.Ytidoaccidmmalaa.VecP Go.Proofs.Ytidoaccidmmalaa.RoleP
open Go.Proofs.Ytidoaccidmmalaa.IntP (RowI SlI OwnI)
open Go.Proofs.Ytidoaccidmmalaa.BoolP (RowB SlB OwnB)
open Go.Proofs.Ytidoaccidmmalaa.PortP (okS roleS tickS sv)
set_option linter.unusedVariables false
set_option maxRecDepth 100000
theorem take_min {α : Type} (l : List α) : l.take 12 = l.take (min l.length 12) := by
  by_cases h : l.length ≤ 12
  · rw [Nat.min_eq_left h, List.take_length, List.take_of_length_le h]
  · rw [Nat.min_eq_right (by omega)]
def fewT (t : T) : T := ⟨⟨t.self.id, t.self.costs.take 12, t.self.ups.take 12, t.self.infos.take 12⟩, t.states.take 12, t.mx, t.dl⟩
theorem few_len (t : T) : Len (fewT t) := by
  constructor <;> (unfold fewT; simp only [List.length_take]; omega)
theorem take_len {α : Type} (l : List α) : (l.take 12).length = min l.length 12 := by rw [List.length_take, Nat.min_comm]
theorem few_tree {t : T} {AC : Option Addr} {cC : Nat} {AU : Option Addr} {cU : Nat} {AI : Option Addr} {cI : Nat} {AS : Option Addr} {cS : Nat} {w : World} (h : TreeR w t AC cC AU cU AI cI AS cS) : TreeR w (fewT t) AC cC AU cU AI cI AS cS := by
  refine ⟨⟨⟨rfl, ?_, ?_, h.self.costs.nil⟩, ⟨rfl, ?_, ?_, h.self.ups.nil⟩, ⟨rfl, ?_, ?_, h.self.infos.nil⟩⟩, ⟨rfl, ?_, ?_, h.sts.nil⟩⟩
  · exact h.self.costs.sl.take 12
  · show (t.self.costs.take 12).length ≤ cC; rw [List.length_take]; have := h.self.costs.cap; omega
  · exact h.self.ups.sl.take 12
  · show (t.self.ups.take 12).length ≤ cU; rw [List.length_take]; have := h.self.ups.cap; omega
  · have := Sl.take h.self.infos.sl 12; rwa [← List.map_take] at this
  · show (t.self.infos.take 12).length ≤ cI; rw [List.length_take]; have := h.self.infos.cap; omega
  · have := Sl.take h.sts.sl 12; rwa [← List.map_take] at this
  · show (t.states.take 12).length ≤ cS; rw [List.length_take]; have := h.sts.cap; omega
theorem few_any {t : T} {AC : Option Addr} {cC : Nat} {AU : Option Addr} {cU : Nat} {AI : Option Addr} {cI : Nat} {AS : Option Addr} {cS : Nat} {w : World} (h : InP w t AC cC AU cU AI cI AS cS) (W : World) : Calls Try.prog 6 #[tv t AC cC AU cU AI cI AS cS] W fun e w' => e = .returned (tv (fewT t) AC cC AU cU AI cI AS cS) ∧ Below W.heap.size W w' :=
  few_values t.self.id t.mx t.dl h.r.self.costs.cap h.r.self.ups.cap h.r.self.infos.cap h.r.sts.cap h.k1 h.k2 h.k3 h.k4 _ _ _ _ (take_len _) (take_len _) (take_len _) (take_len _)
theorem in_row {w : World} {v : Value} (h : IntP.InI w v) : ∃ (A : Option Addr) (L : List Int) (c : Nat), v = .slice A L.length c ∧ RowI w A L.length c L ∧ c ≤ 9223372036854775807 := by
  rcases h with rfl | ⟨a, L, cap, rfl, h1, h2, h3⟩
  · exact ⟨none, [], 0, rfl, IntP.RowI.empty _, by omega⟩
  · exact ⟨some a, L, cap, rfl, ⟨rfl, h3, h1, fun e => by cases e⟩, h2⟩
theorem row_few {w : World} {A : Option Addr} {L : List Int} {c : Nat} (h : RowI w A L.length c L) : RowI w A (L.take 12).length c (L.take 12) := ⟨rfl, h.sl.take 12, by rw [List.length_take]; have := h.cap; omega, h.nil⟩
end Go.Proofs.Ytidoaccidmmalaa.StpP
