/-
  FdbFlushes whole.
-/
import Derived.Test.YtnghilcjecjljaaFdbT
namespace Go.Proofs.Ytnghilcjecjljaa.FdbP
open Go.RowKit Go.Sort Go.Proofs.Ytnghilcjecjljaa.SliceP Go.Proofs.Ytnghilcjecjljaa.MacP
set_option linter.unusedVariables false
set_option maxRecDepth 100000

theorem cut_bd (n m : Int) (h0 : 0 < m) (h1 : m ≤ 1099511627776) : 0 ≤ wrap64 ((IntKind.u64.wrap n).tmod m) ∧ wrap64 ((IntKind.u64.wrap n).tmod m) < m := by
  have h2 : 0 ≤ IntKind.u64.wrap n := by simp [IntKind.wrap, IntKind.signed]; exact Int.emod_nonneg _ (by decide)
  have e : (IntKind.u64.wrap n).tmod m = IntKind.u64.wrap n % m := Int.tmod_eq_emod_of_nonneg h2
  have h3 := Int.emod_nonneg (IntKind.u64.wrap n) (show m ≠ 0 by omega)
  have h4 := Int.emod_lt_of_pos (IntKind.u64.wrap n) h0
  rw [e]
  have e2 : wrap64 (IntKind.u64.wrap n % m) = IntKind.u64.wrap n % m := IntWalk.wrap64_in _ (by omega)
  rw [e2]
  exact ⟨h3, h4⟩
theorem mod8_bd (n m : Int) (h0 : 0 < m) (h1 : m ≤ 1000) : 0 ≤ (n.tmod m + m).tmod m ∧ (n.tmod m + m).tmod m < m ∧ -m < n.tmod m ∧ n.tmod m < m := by
  have h2 : -m < n.tmod m ∧ n.tmod m < m := by
    have := Int.natAbs_tmod n m
    have h3 : (n.tmod m).natAbs < m.natAbs := by rw [this]; exact Nat.mod_lt _ (by omega)
    omega
  rw [Int.tmod_eq_emod_of_nonneg (a := n.tmod m + m) (by omega)]
  exact ⟨Int.emod_nonneg _ (by omega), Int.emod_lt_of_pos _ h0, h2.1, h2.2⟩
theorem mod8w_bd (n : Int) : 0 ≤ (wrap64 (n.tmod 8 + 8)).tmod 8 ∧ (wrap64 (n.tmod 8 + 8)).tmod 8 < 8 := by
  obtain ⟨h1, h2, h3, h4⟩ := mod8_bd n 8 (by omega) (by omega)
  rw [IntWalk.wrap64_in _ (by omega)]
  exact ⟨h1, h2⟩
section
variable {A : Option Addr} {n c : Nat} {bs : List (List E)} {s ag a port now p : Int} {w : World}
theorem find_no (ht : TabS w A n c bs) (hs : Small bs) (h : findOk bs s ag a now = false) : Calls Try.prog 11 #[tbv (.slice A n c) s ag, .int .i64 a, .int .i64 now] w (IsP w 0 1) := fdFind s ag a now ht hs false h
theorem find_yes (ht : TabS w A n c bs) (h : findOk bs s ag a now = true) (hp : findI bs ag a now = p) : Calls Try.prog 11 #[tbv (.slice A n c) s ag, .int .i64 a, .int .i64 now] w (IsP w p 0) := by
  subst hp
  have h1 : rightT bs s ag = true := by unfold findOk at h; rw [Bool.and_eq_true] at h; exact h.1
  exact fdFind s ag a now ht (right_small h1) true h
theorem flush_yes (ht : TabS w A n c bs) (h : rightT bs s ag = true) (hp : (portB port || port == -1) = true) : Calls Try.prog 26 #[tbv (.slice A n c) s ag, .int .i64 port] w (RetTab w (bs.map (keepL (flushP port))) s ag 0) := fdFlush s ag port ht (right_small h) true (by rw [h, hp]; rfl)
theorem sweep_yes (ht : TabS w A n c bs) (h : rightT bs s ag = true) (hp : timeB now = true) : Calls Try.prog 25 #[tbv (.slice A n c) s ag, .int .i64 now] w (RetTab w (sweepT bs ag now) s ag 0) := fdSweep s ag now ht (right_small h) true (by rw [h, hp]; rfl)
theorem unpin_yes (ht : TabS w A n c bs) (h : rightT bs s ag = true) (hm : macB a = true) (hp : (pinnedE bs a).isSome = true) : ∃ bs', Calls Try.prog 24 #[tbv (.slice A n c) s ag, .int .i64 a] w (RetTab w bs' s ag 0) := by
  have := fdUnpin s ag a ht (right_small h) true (by unfold unpinOk; rw [h, hm]; rfl)
  obtain ⟨y, hy⟩ := Option.isSome_iff_exists.1 hp
  unfold unpinO at this
  rw [hy] at this
  exact ⟨_, this⟩
theorem unpin_no (ht : TabS w A n c bs) (h : rightT bs s ag = true) (hm : macB a = true) (hp : (pinnedE bs a).isSome = false) : Calls Try.prog 24 #[tbv (.slice A n c) s ag, .int .i64 a] w (RetTab w [] 0 0 4) := by
  have := fdUnpin s ag a ht (right_small h) true (by unfold unpinOk; rw [h, hm]; rfl)
  unfold unpinO at this
  have hnn : pinnedE bs a = none := by
    cases hq : pinnedE bs a with
    | none => rfl
    | some y => rw [hq] at hp; cases hp
  rw [hnn] at this
  exact this
end
set_option maxHeartbeats 8000000 in
theorem flushes_law (v : Value) (a port0 now0 : Int) {w : World} (h : InTab w v) (_h0 : (Lit.int .i64 a).wf = true) (_h1 : (Lit.int .i64 port0).wf = true) (_h2 : (Lit.int .i64 now0).wf = true) :
    Calls Try.prog 7 #[v, .int .i64 a, .int .i64 port0, .int .i64 now0] w (IntP.True1 w) := by
  obtain ⟨A0, n0, c0, rs, bs0, s, ag, rfl, hT⟩ := h
  have HT := Lib.hid hT
  clear hT
  go_enter Try.func7, Try.ntmps7
  go_wp2_with fail
  obtain ⟨w1, hw1⟩ : ∃ W, W = w.alloc (.cells #[.slice A0 n0 c0, .int .i64 s, .int .i64 ag] 24) := ⟨_, rfl⟩
  have bw1 : Below w.heap.size w w1 := by rw [hw1]; exact (Below.refl _ _).alloc (Nat.le_refl _) _
  have Xw1 : Bx w1 w.heap.size 24 #[.slice A0 n0 c0, .int .i64 s, .int .i64 ag] := by rw [hw1]; exact Bx.new _ _ _ rfl
  rw [← hw1]
  clear hw1
  have T0_w1 := Lib.hid (Xw1)
  have z0_w1 : w.heap.size < w1.heap.size := Xw1.lt
  clear Xw1
  go_at_call 8
  (with_reducible refine (few_in s ag HT.out bw1 z0_w1).mono ?_)
  rintro e w2 ⟨A, n, c, rfl, T, hb2⟩
  have T0_w2 := Lib.hid (T0_w1.out.below hb2)
  have T_w2 := Lib.hid (T)
  have z0_w2 : w.heap.size < w2.heap.size := Nat.lt_of_lt_of_le z0_w1 hb2.size
  have B_w2 := bt bw1 hb2
  clear T0_w1 z0_w1 bw1 hb2
  clear T
  have o_T0_0 := T0_w2.out.c (i := 0) rfl
  have o_T0_1 := T0_w2.out.c (i := 1) rfl
  have o_T0_2 := T0_w2.out.c (i := 2) rfl
  have p_T0_0 := T0_w2.out.f 0
  have p_T0_1 := T0_w2.out.f 1
  have p_T0_2 := T0_w2.out.f 2
  go_wp2_with fail
  clear o_T0_0 o_T0_1 o_T0_2 p_T0_0 p_T0_1 p_T0_2
  obtain ⟨w9, hw9⟩ : ∃ W, W = (((w2.setCell ⟨w.heap.size, 0, none⟩ (.slice A n c)).setCell ⟨w.heap.size, 1, none⟩ (.int .i64 s)).setCell ⟨w.heap.size, 2, none⟩ (.int .i64 ag)) := ⟨_, rfl⟩
  have B_w9 : Below w.heap.size w w9 := by rw [hw9]; exact below3 B_w2 (Nat.le_refl _) _ _ _
  have T0_w9 := Lib.hid (show Bx w9 w.heap.size 24 #[.slice A n c, .int .i64 s, .int .i64 ag] by rw [hw9]; exact T0_w2.out.three)
  have T_w9 := Lib.hid (show TabS w9 A n c (fewT bs0) by rw [hw9]; exact (T_w2.out.off (Off.three _ _ _ _)).tab)
  have z0_w9 : w.heap.size < w9.heap.size := T0_w9.out.lt
  have hsm := fewT_small bs0
  rw [← hw9]
  clear hw9 HT T0_w2 T_w2 B_w2 z0_w2
  generalize fewT bs0 = bs at *
  obtain ⟨x1, x2⟩ := cut_bd now0 1099511627776 (by omega) (by omega)
  obtain ⟨y1, y2⟩ := mod8w_bd port0
  generalize wrap64 ((IntKind.u64.wrap now0).tmod 1099511627776) = now at *
  generalize (wrap64 (port0.tmod 8 + 8)).tmod 8 = port at *
  have ht : timeB now = true := timeB_iff.2 ⟨x1, by omega⟩
  have hpt : (portB port || port == -1) = true := by rw [portB_iff.2 ⟨y1, y2⟩]; rfl
  have hsm' := Lib.hid hsm
  clear hsm x1 x2
  cases hok : (rightT bs s ag && macB a) with
  | false =>
    have hno := Lib.hid (show findOk bs s ag a now = false by unfold findOk; rw [← Bool.and_assoc, hok]; rfl)
    replace hok := Lib.hid hok
    replace ht := Lib.hid ht
    replace hpt := Lib.hid hpt
    go_at_call 11
    (with_reducible refine (find_no T_w9.out hsm'.out hno.out).mono ?_)
    rintro e w10 ⟨rfl, hb10⟩
    have T0_w10 := Lib.hid (T0_w9.out.below hb10)
    have T_w10 := Lib.hid (T_w9.out.below hb10)
    have z0_w10 : w.heap.size < w10.heap.size := Nat.lt_of_lt_of_le z0_w9 hb10.size
    have B_w10 := bt B_w9 hb10
    clear T0_w9 T_w9 z0_w9 B_w9 hb10
    go_wp2_with fail
    go_at_call 14
    (with_reducible refine (alive_any _).mono ?_)
    rintro e w11 ⟨rfl, hb11⟩
    have T0_w11 := Lib.hid (T0_w10.out.below hb11)
    have T_w11 := Lib.hid (T_w10.out.below hb11)
    have z0_w11 : w.heap.size < w11.heap.size := Nat.lt_of_lt_of_le z0_w10 hb11.size
    have B_w11 := bt B_w10 hb11
    clear T0_w10 T_w10 z0_w10 B_w10 hb11
    go_wp2_with fail
    go_ret
    exact ⟨rfl, B_w11⟩
  | true =>
    obtain ⟨h, hm⟩ : rightT bs s ag = true ∧ macB a = true := by rwa [Bool.and_eq_true] at hok
    obtain ⟨Ev, hways⟩ := flushes_plain h hm ⟨y1, y2⟩ ht
    have R1 := Lib.hid (right_keep (flushP (-1)) h)
    have R2 := Lib.hid (right_keep (flushP port) h)
    have R3 : Hid (rightT (sweepT bs ag now) s ag = true) := Lib.hid (right_keep _ h)
    have fok : Hid (∀ b, rightT b s ag = true → findOk b s ag a now = true) := Lib.hid fun b hb => by unfold findOk; rw [hb, hm, ht]; rfl
    obtain ⟨p, hp⟩ : ∃ p, findI bs ag a now = p := ⟨_, rfl⟩
    rw [hp] at hways Ev
    replace Ev := Lib.hid Ev
    replace hp := Lib.hid hp
    replace h := Lib.hid h
    replace hm := Lib.hid hm
    replace ht := Lib.hid ht
    replace hpt := Lib.hid hpt
    have hpp : (p == p) = true := by simp
    clear hok y1 y2
    rcases hways with ⟨hpin, Eq, Eu, hne⟩ | ⟨hpin, Eq, ⟨hpo, Eu⟩ | ⟨hpo, Eu⟩⟩
    · replace Eq := Lib.hid Eq
      replace Eu := Lib.hid Eu
      replace hpin := Lib.hid hpin
      have hne' : (p == -1) = false := by simpa using hne
      have hne2 : (p != -1) = true := by simpa using hne
      clear hne
      go_at_call 11
      (with_reducible refine (find_yes T_w9.out (fok.out _ h.out) hp.out).mono ?_)
      rintro e w10 ⟨rfl, hb10⟩
      have T0_w10 := Lib.hid (T0_w9.out.below hb10)
      have T_w10 := Lib.hid (T_w9.out.below hb10)
      have z0_w10 : w.heap.size < w10.heap.size := Nat.lt_of_lt_of_le z0_w9 hb10.size
      have B_w10 := bt B_w9 hb10
      clear T0_w9 T_w9 z0_w9 B_w9 hb10
      have o_T0_0 := T0_w10.out.c (i := 0) rfl
      have o_T0_1 := T0_w10.out.c (i := 1) rfl
      have o_T0_2 := T0_w10.out.c (i := 2) rfl
      go_wp2_with fail
      clear o_T0_0 o_T0_1 o_T0_2
      go_at_call 26
      (with_reducible refine (flush_yes T_w10.out h.out rfl).mono ?_)
      rintro e w11 ⟨A1, n1, c1, rfl, T1, hb11⟩
      have T0_w11 := Lib.hid (T0_w10.out.below hb11)
      have T_w11 := Lib.hid (T_w10.out.below hb11)
      have T1_w11 := Lib.hid (T1)
      have z0_w11 : w.heap.size < w11.heap.size := Nat.lt_of_lt_of_le z0_w10 hb11.size
      have B_w11 := bt B_w10 hb11
      clear T0_w10 T_w10 z0_w10 B_w10 hb11
      clear T1
      have o_T0_0 := T0_w11.out.c (i := 0) rfl
      have o_T0_1 := T0_w11.out.c (i := 1) rfl
      have o_T0_2 := T0_w11.out.c (i := 2) rfl
      go_wp2_with fail
      clear o_T0_0 o_T0_1 o_T0_2
      obtain ⟨w12, hw12⟩ : ∃ W, W = w11.alloc (.cells #[.slice A1 n1 c1, .int .i64 s, .int .i64 ag] 24) := ⟨_, rfl⟩
      have bw12 : Below w11.heap.size w11 w12 := by rw [hw12]; exact (Below.refl _ _).alloc (Nat.le_refl _) _
      have Xw12 : Bx w12 w11.heap.size 24 #[.slice A1 n1 c1, .int .i64 s, .int .i64 ag] := by rw [hw12]; exact Bx.new _ _ _ rfl
      rw [← hw12]
      clear hw12
      have T0_w12 := Lib.hid (T0_w11.out.below bw12)
      have T_w12 := Lib.hid (T_w11.out.below bw12)
      have T1_w12 := Lib.hid (T1_w11.out.below bw12)
      have B1_w12 := Lib.hid (Xw12)
      have z0_w12 : w.heap.size < w12.heap.size := Nat.lt_of_lt_of_le z0_w11 bw12.size
      have B_w12 := bt B_w11 bw12
      clear T0_w11 T_w11 T1_w11 z0_w11 B_w11 bw12
      have z1_w12 : w11.heap.size < w12.heap.size := Xw12.lt
      clear Xw12
      go_at_call 26
      (with_reducible refine (flush_yes T_w12.out h.out hpt.out).mono ?_)
      rintro e w13 ⟨A2, n2, c2, rfl, T2, hb13⟩
      have T0_w13 := Lib.hid (T0_w12.out.below hb13)
      have T_w13 := Lib.hid (T_w12.out.below hb13)
      have T1_w13 := Lib.hid (T1_w12.out.below hb13)
      have B1_w13 := Lib.hid (B1_w12.out.below hb13)
      have T2_w13 := Lib.hid (T2)
      have z0_w13 : w.heap.size < w13.heap.size := Nat.lt_of_lt_of_le z0_w12 hb13.size
      have z1_w13 : w11.heap.size < w13.heap.size := Nat.lt_of_lt_of_le z1_w12 hb13.size
      have B_w13 := bt B_w12 hb13
      clear T0_w12 T_w12 T1_w12 B1_w12 z0_w12 z1_w12 B_w12 hb13
      clear T2
      have o_T0_0 := T0_w13.out.c (i := 0) rfl
      have o_T0_1 := T0_w13.out.c (i := 1) rfl
      have o_T0_2 := T0_w13.out.c (i := 2) rfl
      go_wp2_with fail
      clear o_T0_0 o_T0_1 o_T0_2
      obtain ⟨w14, hw14⟩ : ∃ W, W = w13.alloc (.cells #[.slice A2 n2 c2, .int .i64 s, .int .i64 ag] 24) := ⟨_, rfl⟩
      have bw14 : Below w13.heap.size w13 w14 := by rw [hw14]; exact (Below.refl _ _).alloc (Nat.le_refl _) _
      have Xw14 : Bx w14 w13.heap.size 24 #[.slice A2 n2 c2, .int .i64 s, .int .i64 ag] := by rw [hw14]; exact Bx.new _ _ _ rfl
      rw [← hw14]
      clear hw14
      have T0_w14 := Lib.hid (T0_w13.out.below bw14)
      have T_w14 := Lib.hid (T_w13.out.below bw14)
      have T1_w14 := Lib.hid (T1_w13.out.below bw14)
      have B1_w14 := Lib.hid (B1_w13.out.below bw14)
      have T2_w14 := Lib.hid (T2_w13.out.below bw14)
      have B2_w14 := Lib.hid (Xw14)
      have z0_w14 : w.heap.size < w14.heap.size := Nat.lt_of_lt_of_le z0_w13 bw14.size
      have z1_w14 : w11.heap.size < w14.heap.size := Nat.lt_of_lt_of_le z1_w13 bw14.size
      have B_w14 := bt B_w13 bw14
      clear T0_w13 T_w13 T1_w13 B1_w13 T2_w13 z0_w13 z1_w13 B_w13 bw14
      have z2_w14 : w13.heap.size < w14.heap.size := Xw14.lt
      clear Xw14
      go_at_call 25
      (with_reducible refine (sweep_yes T_w14.out h.out ht.out).mono ?_)
      rintro e w15 ⟨A3, n3, c3, rfl, T3, hb15⟩
      have T0_w15 := Lib.hid (T0_w14.out.below hb15)
      have T_w15 := Lib.hid (T_w14.out.below hb15)
      have T1_w15 := Lib.hid (T1_w14.out.below hb15)
      have B1_w15 := Lib.hid (B1_w14.out.below hb15)
      have T2_w15 := Lib.hid (T2_w14.out.below hb15)
      have B2_w15 := Lib.hid (B2_w14.out.below hb15)
      have T3_w15 := Lib.hid (T3)
      have z0_w15 : w.heap.size < w15.heap.size := Nat.lt_of_lt_of_le z0_w14 hb15.size
      have z1_w15 : w11.heap.size < w15.heap.size := Nat.lt_of_lt_of_le z1_w14 hb15.size
      have z2_w15 : w13.heap.size < w15.heap.size := Nat.lt_of_lt_of_le z2_w14 hb15.size
      have B_w15 := bt B_w14 hb15
      clear T0_w14 T_w14 T1_w14 B1_w14 T2_w14 B2_w14 z0_w14 z1_w14 z2_w14 B_w14 hb15
      clear T3
      have o_B1_0 := B1_w15.out.c (i := 0) rfl
      have o_B1_1 := B1_w15.out.c (i := 1) rfl
      have o_B1_2 := B1_w15.out.c (i := 2) rfl
      go_wp2_with fail
      clear o_B1_0 o_B1_1 o_B1_2
      obtain ⟨w16, hw16⟩ : ∃ W, W = w15.alloc (.cells #[.slice A3 n3 c3, .int .i64 s, .int .i64 ag] 24) := ⟨_, rfl⟩
      have bw16 : Below w15.heap.size w15 w16 := by rw [hw16]; exact (Below.refl _ _).alloc (Nat.le_refl _) _
      have Xw16 : Bx w16 w15.heap.size 24 #[.slice A3 n3 c3, .int .i64 s, .int .i64 ag] := by rw [hw16]; exact Bx.new _ _ _ rfl
      rw [← hw16]
      clear hw16
      have T0_w16 := Lib.hid (T0_w15.out.below bw16)
      have T_w16 := Lib.hid (T_w15.out.below bw16)
      have T1_w16 := Lib.hid (T1_w15.out.below bw16)
      have B1_w16 := Lib.hid (B1_w15.out.below bw16)
      have T2_w16 := Lib.hid (T2_w15.out.below bw16)
      have B2_w16 := Lib.hid (B2_w15.out.below bw16)
      have T3_w16 := Lib.hid (T3_w15.out.below bw16)
      have B3_w16 := Lib.hid (Xw16)
      have z0_w16 : w.heap.size < w16.heap.size := Nat.lt_of_lt_of_le z0_w15 bw16.size
      have z1_w16 : w11.heap.size < w16.heap.size := Nat.lt_of_lt_of_le z1_w15 bw16.size
      have z2_w16 : w13.heap.size < w16.heap.size := Nat.lt_of_lt_of_le z2_w15 bw16.size
      have B_w16 := bt B_w15 bw16
      clear T0_w15 T_w15 T1_w15 B1_w15 T2_w15 B2_w15 T3_w15 z0_w15 z1_w15 z2_w15 B_w15 bw16
      have z3_w16 : w15.heap.size < w16.heap.size := Xw16.lt
      clear Xw16
      go_at_call 11
      (with_reducible refine (find_yes T1_w16.out.tab (fok.out _ R1.out) Eq.out).mono ?_)
      rintro e w17 ⟨rfl, hb17⟩
      have T0_w17 := Lib.hid (T0_w16.out.below hb17)
      have T_w17 := Lib.hid (T_w16.out.below hb17)
      have T1_w17 := Lib.hid (T1_w16.out.below hb17)
      have B1_w17 := Lib.hid (B1_w16.out.below hb17)
      have T2_w17 := Lib.hid (T2_w16.out.below hb17)
      have B2_w17 := Lib.hid (B2_w16.out.below hb17)
      have T3_w17 := Lib.hid (T3_w16.out.below hb17)
      have B3_w17 := Lib.hid (B3_w16.out.below hb17)
      have z0_w17 : w.heap.size < w17.heap.size := Nat.lt_of_lt_of_le z0_w16 hb17.size
      have z1_w17 : w11.heap.size < w17.heap.size := Nat.lt_of_lt_of_le z1_w16 hb17.size
      have z2_w17 : w13.heap.size < w17.heap.size := Nat.lt_of_lt_of_le z2_w16 hb17.size
      have z3_w17 : w15.heap.size < w17.heap.size := Nat.lt_of_lt_of_le z3_w16 hb17.size
      have B_w17 := bt B_w16 hb17
      clear T0_w16 T_w16 T1_w16 B1_w16 T2_w16 B2_w16 T3_w16 B3_w16 z0_w16 z1_w16 z2_w16 z3_w16 B_w16 hb17
      have o_B2_0 := B2_w17.out.c (i := 0) rfl
      have o_B2_1 := B2_w17.out.c (i := 1) rfl
      have o_B2_2 := B2_w17.out.c (i := 2) rfl
      go_wp2_with fail
      clear o_B2_0 o_B2_1 o_B2_2
      go_at_call 11
      (with_reducible refine (find_yes T2_w17.out.tab (fok.out _ R2.out) Eu.out).mono ?_)
      rintro e w18 ⟨rfl, hb18⟩
      have T0_w18 := Lib.hid (T0_w17.out.below hb18)
      have T_w18 := Lib.hid (T_w17.out.below hb18)
      have T1_w18 := Lib.hid (T1_w17.out.below hb18)
      have B1_w18 := Lib.hid (B1_w17.out.below hb18)
      have T2_w18 := Lib.hid (T2_w17.out.below hb18)
      have B2_w18 := Lib.hid (B2_w17.out.below hb18)
      have T3_w18 := Lib.hid (T3_w17.out.below hb18)
      have B3_w18 := Lib.hid (B3_w17.out.below hb18)
      have z0_w18 : w.heap.size < w18.heap.size := Nat.lt_of_lt_of_le z0_w17 hb18.size
      have z1_w18 : w11.heap.size < w18.heap.size := Nat.lt_of_lt_of_le z1_w17 hb18.size
      have z2_w18 : w13.heap.size < w18.heap.size := Nat.lt_of_lt_of_le z2_w17 hb18.size
      have z3_w18 : w15.heap.size < w18.heap.size := Nat.lt_of_lt_of_le z3_w17 hb18.size
      have B_w18 := bt B_w17 hb18
      clear T0_w17 T_w17 T1_w17 B1_w17 T2_w17 B2_w17 T3_w17 B3_w17 z0_w17 z1_w17 z2_w17 z3_w17 B_w17 hb18
      have o_B3_0 := B3_w18.out.c (i := 0) rfl
      have o_B3_1 := B3_w18.out.c (i := 1) rfl
      have o_B3_2 := B3_w18.out.c (i := 2) rfl
      go_wp2_with fail
      clear o_B3_0 o_B3_1 o_B3_2
      go_at_call 11
      (with_reducible refine (find_yes T3_w18.out.tab (fok.out _ R3.out) Ev.out).mono ?_)
      rintro e w19 ⟨rfl, hb19⟩
      have T0_w19 := Lib.hid (T0_w18.out.below hb19)
      have T_w19 := Lib.hid (T_w18.out.below hb19)
      have T1_w19 := Lib.hid (T1_w18.out.below hb19)
      have B1_w19 := Lib.hid (B1_w18.out.below hb19)
      have T2_w19 := Lib.hid (T2_w18.out.below hb19)
      have B2_w19 := Lib.hid (B2_w18.out.below hb19)
      have T3_w19 := Lib.hid (T3_w18.out.below hb19)
      have B3_w19 := Lib.hid (B3_w18.out.below hb19)
      have z0_w19 : w.heap.size < w19.heap.size := Nat.lt_of_lt_of_le z0_w18 hb19.size
      have z1_w19 : w11.heap.size < w19.heap.size := Nat.lt_of_lt_of_le z1_w18 hb19.size
      have z2_w19 : w13.heap.size < w19.heap.size := Nat.lt_of_lt_of_le z2_w18 hb19.size
      have z3_w19 : w15.heap.size < w19.heap.size := Nat.lt_of_lt_of_le z3_w18 hb19.size
      have B_w19 := bt B_w18 hb19
      clear T0_w18 T_w18 T1_w18 B1_w18 T2_w18 B2_w18 T3_w18 B3_w18 z0_w18 z1_w18 z2_w18 z3_w18 B_w18 hb19
      have o_T0_0 := T0_w19.out.c (i := 0) rfl
      have o_T0_1 := T0_w19.out.c (i := 1) rfl
      have o_T0_2 := T0_w19.out.c (i := 2) rfl
      go_wp2_with fail
      clear o_T0_0 o_T0_1 o_T0_2
      obtain ⟨bs9, hU⟩ := unpin_yes (w := w19) T_w19.out h.out hm.out hpin.out
      replace hU := Lib.hid hU
      go_at_call 24
      (with_reducible refine (hU.out).mono ?_)
      rintro e w20 ⟨A4, n4, c4, rfl, _, hb20⟩
      have T0_w20 := Lib.hid (T0_w19.out.below hb20)
      have T_w20 := Lib.hid (T_w19.out.below hb20)
      have T1_w20 := Lib.hid (T1_w19.out.below hb20)
      have B1_w20 := Lib.hid (B1_w19.out.below hb20)
      have T2_w20 := Lib.hid (T2_w19.out.below hb20)
      have B2_w20 := Lib.hid (B2_w19.out.below hb20)
      have T3_w20 := Lib.hid (T3_w19.out.below hb20)
      have B3_w20 := Lib.hid (B3_w19.out.below hb20)
      have z0_w20 : w.heap.size < w20.heap.size := Nat.lt_of_lt_of_le z0_w19 hb20.size
      have z1_w20 : w11.heap.size < w20.heap.size := Nat.lt_of_lt_of_le z1_w19 hb20.size
      have z2_w20 : w13.heap.size < w20.heap.size := Nat.lt_of_lt_of_le z2_w19 hb20.size
      have z3_w20 : w15.heap.size < w20.heap.size := Nat.lt_of_lt_of_le z3_w19 hb20.size
      have B_w20 := bt B_w19 hb20
      clear T0_w19 T_w19 T1_w19 B1_w19 T2_w19 B2_w19 T3_w19 B3_w19 z0_w19 z1_w19 z2_w19 z3_w19 B_w19 hb20
      go_wp2_with fail
      obtain ⟨w21, hw21⟩ : ∃ W, W = w20.alloc (.cells #[.slice A4 n4 c4, .int .i64 s, .int .i64 ag] 24) := ⟨_, rfl⟩
      have bw21 : Below w20.heap.size w20 w21 := by rw [hw21]; exact (Below.refl _ _).alloc (Nat.le_refl _) _
      have Xw21 : Bx w21 w20.heap.size 24 #[.slice A4 n4 c4, .int .i64 s, .int .i64 ag] := by rw [hw21]; exact Bx.new _ _ _ rfl
      rw [← hw21]
      clear hw21
      have T0_w21 := Lib.hid (T0_w20.out.below bw21)
      have T_w21 := Lib.hid (T_w20.out.below bw21)
      have T1_w21 := Lib.hid (T1_w20.out.below bw21)
      have B1_w21 := Lib.hid (B1_w20.out.below bw21)
      have T2_w21 := Lib.hid (T2_w20.out.below bw21)
      have B2_w21 := Lib.hid (B2_w20.out.below bw21)
      have T3_w21 := Lib.hid (T3_w20.out.below bw21)
      have B3_w21 := Lib.hid (B3_w20.out.below bw21)
      have B4_w21 := Lib.hid (Xw21)
      have z0_w21 : w.heap.size < w21.heap.size := Nat.lt_of_lt_of_le z0_w20 bw21.size
      have z1_w21 : w11.heap.size < w21.heap.size := Nat.lt_of_lt_of_le z1_w20 bw21.size
      have z2_w21 : w13.heap.size < w21.heap.size := Nat.lt_of_lt_of_le z2_w20 bw21.size
      have z3_w21 : w15.heap.size < w21.heap.size := Nat.lt_of_lt_of_le z3_w20 bw21.size
      have B_w21 := bt B_w20 bw21
      clear T0_w20 T_w20 T1_w20 B1_w20 T2_w20 B2_w20 T3_w20 B3_w20 z0_w20 z1_w20 z2_w20 z3_w20 B_w20 bw21
      have z4_w21 : w20.heap.size < w21.heap.size := Xw21.lt
      clear Xw21
      go_at_call 14
      (with_reducible refine (alive_any _).mono ?_)
      rintro e w22 ⟨rfl, hb22⟩
      have T0_w22 := Lib.hid (T0_w21.out.below hb22)
      have T_w22 := Lib.hid (T_w21.out.below hb22)
      have T1_w22 := Lib.hid (T1_w21.out.below hb22)
      have B1_w22 := Lib.hid (B1_w21.out.below hb22)
      have T2_w22 := Lib.hid (T2_w21.out.below hb22)
      have B2_w22 := Lib.hid (B2_w21.out.below hb22)
      have T3_w22 := Lib.hid (T3_w21.out.below hb22)
      have B3_w22 := Lib.hid (B3_w21.out.below hb22)
      have B4_w22 := Lib.hid (B4_w21.out.below hb22)
      have z0_w22 : w.heap.size < w22.heap.size := Nat.lt_of_lt_of_le z0_w21 hb22.size
      have z1_w22 : w11.heap.size < w22.heap.size := Nat.lt_of_lt_of_le z1_w21 hb22.size
      have z2_w22 : w13.heap.size < w22.heap.size := Nat.lt_of_lt_of_le z2_w21 hb22.size
      have z3_w22 : w15.heap.size < w22.heap.size := Nat.lt_of_lt_of_le z3_w21 hb22.size
      have z4_w22 : w20.heap.size < w22.heap.size := Nat.lt_of_lt_of_le z4_w21 hb22.size
      have B_w22 := bt B_w21 hb22
      clear T0_w21 T_w21 T1_w21 B1_w21 T2_w21 B2_w21 T3_w21 B3_w21 B4_w21 z0_w21 z1_w21 z2_w21 z3_w21 z4_w21 B_w21 hb22
      go_wp2_with fail
      go_ret
      exact ⟨rfl, B_w22⟩
    · replace Eq := Lib.hid Eq
      replace Eu := Lib.hid Eu
      replace hpin := Lib.hid hpin
      obtain rfl : p = port := hpo
      go_at_call 11
      (with_reducible refine (find_yes T_w9.out (fok.out _ h.out) hp.out).mono ?_)
      rintro e w10 ⟨rfl, hb10⟩
      have T0_w10 := Lib.hid (T0_w9.out.below hb10)
      have T_w10 := Lib.hid (T_w9.out.below hb10)
      have z0_w10 : w.heap.size < w10.heap.size := Nat.lt_of_lt_of_le z0_w9 hb10.size
      have B_w10 := bt B_w9 hb10
      clear T0_w9 T_w9 z0_w9 B_w9 hb10
      have o_T0_0 := T0_w10.out.c (i := 0) rfl
      have o_T0_1 := T0_w10.out.c (i := 1) rfl
      have o_T0_2 := T0_w10.out.c (i := 2) rfl
      go_wp2_with fail
      clear o_T0_0 o_T0_1 o_T0_2
      go_at_call 26
      (with_reducible refine (flush_yes T_w10.out h.out rfl).mono ?_)
      rintro e w11 ⟨A1, n1, c1, rfl, T1, hb11⟩
      have T0_w11 := Lib.hid (T0_w10.out.below hb11)
      have T_w11 := Lib.hid (T_w10.out.below hb11)
      have T1_w11 := Lib.hid (T1)
      have z0_w11 : w.heap.size < w11.heap.size := Nat.lt_of_lt_of_le z0_w10 hb11.size
      have B_w11 := bt B_w10 hb11
      clear T0_w10 T_w10 z0_w10 B_w10 hb11
      clear T1
      have o_T0_0 := T0_w11.out.c (i := 0) rfl
      have o_T0_1 := T0_w11.out.c (i := 1) rfl
      have o_T0_2 := T0_w11.out.c (i := 2) rfl
      go_wp2_with fail
      clear o_T0_0 o_T0_1 o_T0_2
      obtain ⟨w12, hw12⟩ : ∃ W, W = w11.alloc (.cells #[.slice A1 n1 c1, .int .i64 s, .int .i64 ag] 24) := ⟨_, rfl⟩
      have bw12 : Below w11.heap.size w11 w12 := by rw [hw12]; exact (Below.refl _ _).alloc (Nat.le_refl _) _
      have Xw12 : Bx w12 w11.heap.size 24 #[.slice A1 n1 c1, .int .i64 s, .int .i64 ag] := by rw [hw12]; exact Bx.new _ _ _ rfl
      rw [← hw12]
      clear hw12
      have T0_w12 := Lib.hid (T0_w11.out.below bw12)
      have T_w12 := Lib.hid (T_w11.out.below bw12)
      have T1_w12 := Lib.hid (T1_w11.out.below bw12)
      have B1_w12 := Lib.hid (Xw12)
      have z0_w12 : w.heap.size < w12.heap.size := Nat.lt_of_lt_of_le z0_w11 bw12.size
      have B_w12 := bt B_w11 bw12
      clear T0_w11 T_w11 T1_w11 z0_w11 B_w11 bw12
      have z1_w12 : w11.heap.size < w12.heap.size := Xw12.lt
      clear Xw12
      go_at_call 26
      (with_reducible refine (flush_yes T_w12.out h.out hpt.out).mono ?_)
      rintro e w13 ⟨A2, n2, c2, rfl, T2, hb13⟩
      have T0_w13 := Lib.hid (T0_w12.out.below hb13)
      have T_w13 := Lib.hid (T_w12.out.below hb13)
      have T1_w13 := Lib.hid (T1_w12.out.below hb13)
      have B1_w13 := Lib.hid (B1_w12.out.below hb13)
      have T2_w13 := Lib.hid (T2)
      have z0_w13 : w.heap.size < w13.heap.size := Nat.lt_of_lt_of_le z0_w12 hb13.size
      have z1_w13 : w11.heap.size < w13.heap.size := Nat.lt_of_lt_of_le z1_w12 hb13.size
      have B_w13 := bt B_w12 hb13
      clear T0_w12 T_w12 T1_w12 B1_w12 z0_w12 z1_w12 B_w12 hb13
      clear T2
      have o_T0_0 := T0_w13.out.c (i := 0) rfl
      have o_T0_1 := T0_w13.out.c (i := 1) rfl
      have o_T0_2 := T0_w13.out.c (i := 2) rfl
      go_wp2_with fail
      clear o_T0_0 o_T0_1 o_T0_2
      obtain ⟨w14, hw14⟩ : ∃ W, W = w13.alloc (.cells #[.slice A2 n2 c2, .int .i64 s, .int .i64 ag] 24) := ⟨_, rfl⟩
      have bw14 : Below w13.heap.size w13 w14 := by rw [hw14]; exact (Below.refl _ _).alloc (Nat.le_refl _) _
      have Xw14 : Bx w14 w13.heap.size 24 #[.slice A2 n2 c2, .int .i64 s, .int .i64 ag] := by rw [hw14]; exact Bx.new _ _ _ rfl
      rw [← hw14]
      clear hw14
      have T0_w14 := Lib.hid (T0_w13.out.below bw14)
      have T_w14 := Lib.hid (T_w13.out.below bw14)
      have T1_w14 := Lib.hid (T1_w13.out.below bw14)
      have B1_w14 := Lib.hid (B1_w13.out.below bw14)
      have T2_w14 := Lib.hid (T2_w13.out.below bw14)
      have B2_w14 := Lib.hid (Xw14)
      have z0_w14 : w.heap.size < w14.heap.size := Nat.lt_of_lt_of_le z0_w13 bw14.size
      have z1_w14 : w11.heap.size < w14.heap.size := Nat.lt_of_lt_of_le z1_w13 bw14.size
      have B_w14 := bt B_w13 bw14
      clear T0_w13 T_w13 T1_w13 B1_w13 T2_w13 z0_w13 z1_w13 B_w13 bw14
      have z2_w14 : w13.heap.size < w14.heap.size := Xw14.lt
      clear Xw14
      go_at_call 25
      (with_reducible refine (sweep_yes T_w14.out h.out ht.out).mono ?_)
      rintro e w15 ⟨A3, n3, c3, rfl, T3, hb15⟩
      have T0_w15 := Lib.hid (T0_w14.out.below hb15)
      have T_w15 := Lib.hid (T_w14.out.below hb15)
      have T1_w15 := Lib.hid (T1_w14.out.below hb15)
      have B1_w15 := Lib.hid (B1_w14.out.below hb15)
      have T2_w15 := Lib.hid (T2_w14.out.below hb15)
      have B2_w15 := Lib.hid (B2_w14.out.below hb15)
      have T3_w15 := Lib.hid (T3)
      have z0_w15 : w.heap.size < w15.heap.size := Nat.lt_of_lt_of_le z0_w14 hb15.size
      have z1_w15 : w11.heap.size < w15.heap.size := Nat.lt_of_lt_of_le z1_w14 hb15.size
      have z2_w15 : w13.heap.size < w15.heap.size := Nat.lt_of_lt_of_le z2_w14 hb15.size
      have B_w15 := bt B_w14 hb15
      clear T0_w14 T_w14 T1_w14 B1_w14 T2_w14 B2_w14 z0_w14 z1_w14 z2_w14 B_w14 hb15
      clear T3
      have o_B1_0 := B1_w15.out.c (i := 0) rfl
      have o_B1_1 := B1_w15.out.c (i := 1) rfl
      have o_B1_2 := B1_w15.out.c (i := 2) rfl
      go_wp2_with fail
      clear o_B1_0 o_B1_1 o_B1_2
      obtain ⟨w16, hw16⟩ : ∃ W, W = w15.alloc (.cells #[.slice A3 n3 c3, .int .i64 s, .int .i64 ag] 24) := ⟨_, rfl⟩
      have bw16 : Below w15.heap.size w15 w16 := by rw [hw16]; exact (Below.refl _ _).alloc (Nat.le_refl _) _
      have Xw16 : Bx w16 w15.heap.size 24 #[.slice A3 n3 c3, .int .i64 s, .int .i64 ag] := by rw [hw16]; exact Bx.new _ _ _ rfl
      rw [← hw16]
      clear hw16
      have T0_w16 := Lib.hid (T0_w15.out.below bw16)
      have T_w16 := Lib.hid (T_w15.out.below bw16)
      have T1_w16 := Lib.hid (T1_w15.out.below bw16)
      have B1_w16 := Lib.hid (B1_w15.out.below bw16)
      have T2_w16 := Lib.hid (T2_w15.out.below bw16)
      have B2_w16 := Lib.hid (B2_w15.out.below bw16)
      have T3_w16 := Lib.hid (T3_w15.out.below bw16)
      have B3_w16 := Lib.hid (Xw16)
      have z0_w16 : w.heap.size < w16.heap.size := Nat.lt_of_lt_of_le z0_w15 bw16.size
      have z1_w16 : w11.heap.size < w16.heap.size := Nat.lt_of_lt_of_le z1_w15 bw16.size
      have z2_w16 : w13.heap.size < w16.heap.size := Nat.lt_of_lt_of_le z2_w15 bw16.size
      have B_w16 := bt B_w15 bw16
      clear T0_w15 T_w15 T1_w15 B1_w15 T2_w15 B2_w15 T3_w15 z0_w15 z1_w15 z2_w15 B_w15 bw16
      have z3_w16 : w15.heap.size < w16.heap.size := Xw16.lt
      clear Xw16
      go_at_call 11
      (with_reducible refine (find_yes T1_w16.out.tab (fok.out _ R1.out) Eq.out).mono ?_)
      rintro e w17 ⟨rfl, hb17⟩
      have T0_w17 := Lib.hid (T0_w16.out.below hb17)
      have T_w17 := Lib.hid (T_w16.out.below hb17)
      have T1_w17 := Lib.hid (T1_w16.out.below hb17)
      have B1_w17 := Lib.hid (B1_w16.out.below hb17)
      have T2_w17 := Lib.hid (T2_w16.out.below hb17)
      have B2_w17 := Lib.hid (B2_w16.out.below hb17)
      have T3_w17 := Lib.hid (T3_w16.out.below hb17)
      have B3_w17 := Lib.hid (B3_w16.out.below hb17)
      have z0_w17 : w.heap.size < w17.heap.size := Nat.lt_of_lt_of_le z0_w16 hb17.size
      have z1_w17 : w11.heap.size < w17.heap.size := Nat.lt_of_lt_of_le z1_w16 hb17.size
      have z2_w17 : w13.heap.size < w17.heap.size := Nat.lt_of_lt_of_le z2_w16 hb17.size
      have z3_w17 : w15.heap.size < w17.heap.size := Nat.lt_of_lt_of_le z3_w16 hb17.size
      have B_w17 := bt B_w16 hb17
      clear T0_w16 T_w16 T1_w16 B1_w16 T2_w16 B2_w16 T3_w16 B3_w16 z0_w16 z1_w16 z2_w16 z3_w16 B_w16 hb17
      have o_B2_0 := B2_w17.out.c (i := 0) rfl
      have o_B2_1 := B2_w17.out.c (i := 1) rfl
      have o_B2_2 := B2_w17.out.c (i := 2) rfl
      go_wp2_with fail
      clear o_B2_0 o_B2_1 o_B2_2
      go_at_call 11
      (with_reducible refine (find_yes T2_w17.out.tab (fok.out _ R2.out) Eu.out).mono ?_)
      rintro e w18 ⟨rfl, hb18⟩
      have T0_w18 := Lib.hid (T0_w17.out.below hb18)
      have T_w18 := Lib.hid (T_w17.out.below hb18)
      have T1_w18 := Lib.hid (T1_w17.out.below hb18)
      have B1_w18 := Lib.hid (B1_w17.out.below hb18)
      have T2_w18 := Lib.hid (T2_w17.out.below hb18)
      have B2_w18 := Lib.hid (B2_w17.out.below hb18)
      have T3_w18 := Lib.hid (T3_w17.out.below hb18)
      have B3_w18 := Lib.hid (B3_w17.out.below hb18)
      have z0_w18 : w.heap.size < w18.heap.size := Nat.lt_of_lt_of_le z0_w17 hb18.size
      have z1_w18 : w11.heap.size < w18.heap.size := Nat.lt_of_lt_of_le z1_w17 hb18.size
      have z2_w18 : w13.heap.size < w18.heap.size := Nat.lt_of_lt_of_le z2_w17 hb18.size
      have z3_w18 : w15.heap.size < w18.heap.size := Nat.lt_of_lt_of_le z3_w17 hb18.size
      have B_w18 := bt B_w17 hb18
      clear T0_w17 T_w17 T1_w17 B1_w17 T2_w17 B2_w17 T3_w17 B3_w17 z0_w17 z1_w17 z2_w17 z3_w17 B_w17 hb18
      have o_B3_0 := B3_w18.out.c (i := 0) rfl
      have o_B3_1 := B3_w18.out.c (i := 1) rfl
      have o_B3_2 := B3_w18.out.c (i := 2) rfl
      go_wp2_with fail
      clear o_B3_0 o_B3_1 o_B3_2
      go_at_call 11
      (with_reducible refine (find_yes T3_w18.out.tab (fok.out _ R3.out) Ev.out).mono ?_)
      rintro e w19 ⟨rfl, hb19⟩
      have T0_w19 := Lib.hid (T0_w18.out.below hb19)
      have T_w19 := Lib.hid (T_w18.out.below hb19)
      have T1_w19 := Lib.hid (T1_w18.out.below hb19)
      have B1_w19 := Lib.hid (B1_w18.out.below hb19)
      have T2_w19 := Lib.hid (T2_w18.out.below hb19)
      have B2_w19 := Lib.hid (B2_w18.out.below hb19)
      have T3_w19 := Lib.hid (T3_w18.out.below hb19)
      have B3_w19 := Lib.hid (B3_w18.out.below hb19)
      have z0_w19 : w.heap.size < w19.heap.size := Nat.lt_of_lt_of_le z0_w18 hb19.size
      have z1_w19 : w11.heap.size < w19.heap.size := Nat.lt_of_lt_of_le z1_w18 hb19.size
      have z2_w19 : w13.heap.size < w19.heap.size := Nat.lt_of_lt_of_le z2_w18 hb19.size
      have z3_w19 : w15.heap.size < w19.heap.size := Nat.lt_of_lt_of_le z3_w18 hb19.size
      have B_w19 := bt B_w18 hb19
      clear T0_w18 T_w18 T1_w18 B1_w18 T2_w18 B2_w18 T3_w18 B3_w18 z0_w18 z1_w18 z2_w18 z3_w18 B_w18 hb19
      have o_T0_0 := T0_w19.out.c (i := 0) rfl
      have o_T0_1 := T0_w19.out.c (i := 1) rfl
      have o_T0_2 := T0_w19.out.c (i := 2) rfl
      go_wp2_with fail
      clear o_T0_0 o_T0_1 o_T0_2
      go_at_call 24
      (with_reducible refine (unpin_no T_w19.out h.out hm.out hpin.out).mono ?_)
      rintro e w20 ⟨A4, n4, c4, rfl, _, hb20⟩
      have T0_w20 := Lib.hid (T0_w19.out.below hb20)
      have T_w20 := Lib.hid (T_w19.out.below hb20)
      have T1_w20 := Lib.hid (T1_w19.out.below hb20)
      have B1_w20 := Lib.hid (B1_w19.out.below hb20)
      have T2_w20 := Lib.hid (T2_w19.out.below hb20)
      have B2_w20 := Lib.hid (B2_w19.out.below hb20)
      have T3_w20 := Lib.hid (T3_w19.out.below hb20)
      have B3_w20 := Lib.hid (B3_w19.out.below hb20)
      have z0_w20 : w.heap.size < w20.heap.size := Nat.lt_of_lt_of_le z0_w19 hb20.size
      have z1_w20 : w11.heap.size < w20.heap.size := Nat.lt_of_lt_of_le z1_w19 hb20.size
      have z2_w20 : w13.heap.size < w20.heap.size := Nat.lt_of_lt_of_le z2_w19 hb20.size
      have z3_w20 : w15.heap.size < w20.heap.size := Nat.lt_of_lt_of_le z3_w19 hb20.size
      have B_w20 := bt B_w19 hb20
      clear T0_w19 T_w19 T1_w19 B1_w19 T2_w19 B2_w19 T3_w19 B3_w19 z0_w19 z1_w19 z2_w19 z3_w19 B_w19 hb20
      go_wp2_with fail
      obtain ⟨w21, hw21⟩ : ∃ W, W = w20.alloc (.cells #[.slice A4 n4 c4, .int .i64 0, .int .i64 0] 24) := ⟨_, rfl⟩
      have bw21 : Below w20.heap.size w20 w21 := by rw [hw21]; exact (Below.refl _ _).alloc (Nat.le_refl _) _
      have Xw21 : Bx w21 w20.heap.size 24 #[.slice A4 n4 c4, .int .i64 0, .int .i64 0] := by rw [hw21]; exact Bx.new _ _ _ rfl
      rw [← hw21]
      clear hw21
      have T0_w21 := Lib.hid (T0_w20.out.below bw21)
      have T_w21 := Lib.hid (T_w20.out.below bw21)
      have T1_w21 := Lib.hid (T1_w20.out.below bw21)
      have B1_w21 := Lib.hid (B1_w20.out.below bw21)
      have T2_w21 := Lib.hid (T2_w20.out.below bw21)
      have B2_w21 := Lib.hid (B2_w20.out.below bw21)
      have T3_w21 := Lib.hid (T3_w20.out.below bw21)
      have B3_w21 := Lib.hid (B3_w20.out.below bw21)
      have B4_w21 := Lib.hid (Xw21)
      have z0_w21 : w.heap.size < w21.heap.size := Nat.lt_of_lt_of_le z0_w20 bw21.size
      have z1_w21 : w11.heap.size < w21.heap.size := Nat.lt_of_lt_of_le z1_w20 bw21.size
      have z2_w21 : w13.heap.size < w21.heap.size := Nat.lt_of_lt_of_le z2_w20 bw21.size
      have z3_w21 : w15.heap.size < w21.heap.size := Nat.lt_of_lt_of_le z3_w20 bw21.size
      have B_w21 := bt B_w20 bw21
      clear T0_w20 T_w20 T1_w20 B1_w20 T2_w20 B2_w20 T3_w20 B3_w20 z0_w20 z1_w20 z2_w20 z3_w20 B_w20 bw21
      have z4_w21 : w20.heap.size < w21.heap.size := Xw21.lt
      clear Xw21
      go_at_call 14
      (with_reducible refine (alive_any _).mono ?_)
      rintro e w22 ⟨rfl, hb22⟩
      have T0_w22 := Lib.hid (T0_w21.out.below hb22)
      have T_w22 := Lib.hid (T_w21.out.below hb22)
      have T1_w22 := Lib.hid (T1_w21.out.below hb22)
      have B1_w22 := Lib.hid (B1_w21.out.below hb22)
      have T2_w22 := Lib.hid (T2_w21.out.below hb22)
      have B2_w22 := Lib.hid (B2_w21.out.below hb22)
      have T3_w22 := Lib.hid (T3_w21.out.below hb22)
      have B3_w22 := Lib.hid (B3_w21.out.below hb22)
      have B4_w22 := Lib.hid (B4_w21.out.below hb22)
      have z0_w22 : w.heap.size < w22.heap.size := Nat.lt_of_lt_of_le z0_w21 hb22.size
      have z1_w22 : w11.heap.size < w22.heap.size := Nat.lt_of_lt_of_le z1_w21 hb22.size
      have z2_w22 : w13.heap.size < w22.heap.size := Nat.lt_of_lt_of_le z2_w21 hb22.size
      have z3_w22 : w15.heap.size < w22.heap.size := Nat.lt_of_lt_of_le z3_w21 hb22.size
      have z4_w22 : w20.heap.size < w22.heap.size := Nat.lt_of_lt_of_le z4_w21 hb22.size
      have B_w22 := bt B_w21 hb22
      clear T0_w21 T_w21 T1_w21 B1_w21 T2_w21 B2_w21 T3_w21 B3_w21 B4_w21 z0_w21 z1_w21 z2_w21 z3_w21 z4_w21 B_w21 hb22
      go_wp2_with fail
      go_ret
      exact ⟨rfl, B_w22⟩
    · replace Eq := Lib.hid Eq
      replace Eu := Lib.hid Eu
      replace hpin := Lib.hid hpin
      have hpo' : (p == port) = false := by simpa using hpo
      have hpo2 : (p != port) = true := by simpa using hpo
      have hpo3 : ¬ p = port := hpo
      clear hpo
      go_at_call 11
      (with_reducible refine (find_yes T_w9.out (fok.out _ h.out) hp.out).mono ?_)
      rintro e w10 ⟨rfl, hb10⟩
      have T0_w10 := Lib.hid (T0_w9.out.below hb10)
      have T_w10 := Lib.hid (T_w9.out.below hb10)
      have z0_w10 : w.heap.size < w10.heap.size := Nat.lt_of_lt_of_le z0_w9 hb10.size
      have B_w10 := bt B_w9 hb10
      clear T0_w9 T_w9 z0_w9 B_w9 hb10
      have o_T0_0 := T0_w10.out.c (i := 0) rfl
      have o_T0_1 := T0_w10.out.c (i := 1) rfl
      have o_T0_2 := T0_w10.out.c (i := 2) rfl
      go_wp2_with fail
      clear o_T0_0 o_T0_1 o_T0_2
      go_at_call 26
      (with_reducible refine (flush_yes T_w10.out h.out rfl).mono ?_)
      rintro e w11 ⟨A1, n1, c1, rfl, T1, hb11⟩
      have T0_w11 := Lib.hid (T0_w10.out.below hb11)
      have T_w11 := Lib.hid (T_w10.out.below hb11)
      have T1_w11 := Lib.hid (T1)
      have z0_w11 : w.heap.size < w11.heap.size := Nat.lt_of_lt_of_le z0_w10 hb11.size
      have B_w11 := bt B_w10 hb11
      clear T0_w10 T_w10 z0_w10 B_w10 hb11
      clear T1
      have o_T0_0 := T0_w11.out.c (i := 0) rfl
      have o_T0_1 := T0_w11.out.c (i := 1) rfl
      have o_T0_2 := T0_w11.out.c (i := 2) rfl
      go_wp2_with fail
      clear o_T0_0 o_T0_1 o_T0_2
      obtain ⟨w12, hw12⟩ : ∃ W, W = w11.alloc (.cells #[.slice A1 n1 c1, .int .i64 s, .int .i64 ag] 24) := ⟨_, rfl⟩
      have bw12 : Below w11.heap.size w11 w12 := by rw [hw12]; exact (Below.refl _ _).alloc (Nat.le_refl _) _
      have Xw12 : Bx w12 w11.heap.size 24 #[.slice A1 n1 c1, .int .i64 s, .int .i64 ag] := by rw [hw12]; exact Bx.new _ _ _ rfl
      rw [← hw12]
      clear hw12
      have T0_w12 := Lib.hid (T0_w11.out.below bw12)
      have T_w12 := Lib.hid (T_w11.out.below bw12)
      have T1_w12 := Lib.hid (T1_w11.out.below bw12)
      have B1_w12 := Lib.hid (Xw12)
      have z0_w12 : w.heap.size < w12.heap.size := Nat.lt_of_lt_of_le z0_w11 bw12.size
      have B_w12 := bt B_w11 bw12
      clear T0_w11 T_w11 T1_w11 z0_w11 B_w11 bw12
      have z1_w12 : w11.heap.size < w12.heap.size := Xw12.lt
      clear Xw12
      go_at_call 26
      (with_reducible refine (flush_yes T_w12.out h.out hpt.out).mono ?_)
      rintro e w13 ⟨A2, n2, c2, rfl, T2, hb13⟩
      have T0_w13 := Lib.hid (T0_w12.out.below hb13)
      have T_w13 := Lib.hid (T_w12.out.below hb13)
      have T1_w13 := Lib.hid (T1_w12.out.below hb13)
      have B1_w13 := Lib.hid (B1_w12.out.below hb13)
      have T2_w13 := Lib.hid (T2)
      have z0_w13 : w.heap.size < w13.heap.size := Nat.lt_of_lt_of_le z0_w12 hb13.size
      have z1_w13 : w11.heap.size < w13.heap.size := Nat.lt_of_lt_of_le z1_w12 hb13.size
      have B_w13 := bt B_w12 hb13
      clear T0_w12 T_w12 T1_w12 B1_w12 z0_w12 z1_w12 B_w12 hb13
      clear T2
      have o_T0_0 := T0_w13.out.c (i := 0) rfl
      have o_T0_1 := T0_w13.out.c (i := 1) rfl
      have o_T0_2 := T0_w13.out.c (i := 2) rfl
      go_wp2_with fail
      clear o_T0_0 o_T0_1 o_T0_2
      obtain ⟨w14, hw14⟩ : ∃ W, W = w13.alloc (.cells #[.slice A2 n2 c2, .int .i64 s, .int .i64 ag] 24) := ⟨_, rfl⟩
      have bw14 : Below w13.heap.size w13 w14 := by rw [hw14]; exact (Below.refl _ _).alloc (Nat.le_refl _) _
      have Xw14 : Bx w14 w13.heap.size 24 #[.slice A2 n2 c2, .int .i64 s, .int .i64 ag] := by rw [hw14]; exact Bx.new _ _ _ rfl
      rw [← hw14]
      clear hw14
      have T0_w14 := Lib.hid (T0_w13.out.below bw14)
      have T_w14 := Lib.hid (T_w13.out.below bw14)
      have T1_w14 := Lib.hid (T1_w13.out.below bw14)
      have B1_w14 := Lib.hid (B1_w13.out.below bw14)
      have T2_w14 := Lib.hid (T2_w13.out.below bw14)
      have B2_w14 := Lib.hid (Xw14)
      have z0_w14 : w.heap.size < w14.heap.size := Nat.lt_of_lt_of_le z0_w13 bw14.size
      have z1_w14 : w11.heap.size < w14.heap.size := Nat.lt_of_lt_of_le z1_w13 bw14.size
      have B_w14 := bt B_w13 bw14
      clear T0_w13 T_w13 T1_w13 B1_w13 T2_w13 z0_w13 z1_w13 B_w13 bw14
      have z2_w14 : w13.heap.size < w14.heap.size := Xw14.lt
      clear Xw14
      go_at_call 25
      (with_reducible refine (sweep_yes T_w14.out h.out ht.out).mono ?_)
      rintro e w15 ⟨A3, n3, c3, rfl, T3, hb15⟩
      have T0_w15 := Lib.hid (T0_w14.out.below hb15)
      have T_w15 := Lib.hid (T_w14.out.below hb15)
      have T1_w15 := Lib.hid (T1_w14.out.below hb15)
      have B1_w15 := Lib.hid (B1_w14.out.below hb15)
      have T2_w15 := Lib.hid (T2_w14.out.below hb15)
      have B2_w15 := Lib.hid (B2_w14.out.below hb15)
      have T3_w15 := Lib.hid (T3)
      have z0_w15 : w.heap.size < w15.heap.size := Nat.lt_of_lt_of_le z0_w14 hb15.size
      have z1_w15 : w11.heap.size < w15.heap.size := Nat.lt_of_lt_of_le z1_w14 hb15.size
      have z2_w15 : w13.heap.size < w15.heap.size := Nat.lt_of_lt_of_le z2_w14 hb15.size
      have B_w15 := bt B_w14 hb15
      clear T0_w14 T_w14 T1_w14 B1_w14 T2_w14 B2_w14 z0_w14 z1_w14 z2_w14 B_w14 hb15
      clear T3
      have o_B1_0 := B1_w15.out.c (i := 0) rfl
      have o_B1_1 := B1_w15.out.c (i := 1) rfl
      have o_B1_2 := B1_w15.out.c (i := 2) rfl
      go_wp2_with fail
      clear o_B1_0 o_B1_1 o_B1_2
      obtain ⟨w16, hw16⟩ : ∃ W, W = w15.alloc (.cells #[.slice A3 n3 c3, .int .i64 s, .int .i64 ag] 24) := ⟨_, rfl⟩
      have bw16 : Below w15.heap.size w15 w16 := by rw [hw16]; exact (Below.refl _ _).alloc (Nat.le_refl _) _
      have Xw16 : Bx w16 w15.heap.size 24 #[.slice A3 n3 c3, .int .i64 s, .int .i64 ag] := by rw [hw16]; exact Bx.new _ _ _ rfl
      rw [← hw16]
      clear hw16
      have T0_w16 := Lib.hid (T0_w15.out.below bw16)
      have T_w16 := Lib.hid (T_w15.out.below bw16)
      have T1_w16 := Lib.hid (T1_w15.out.below bw16)
      have B1_w16 := Lib.hid (B1_w15.out.below bw16)
      have T2_w16 := Lib.hid (T2_w15.out.below bw16)
      have B2_w16 := Lib.hid (B2_w15.out.below bw16)
      have T3_w16 := Lib.hid (T3_w15.out.below bw16)
      have B3_w16 := Lib.hid (Xw16)
      have z0_w16 : w.heap.size < w16.heap.size := Nat.lt_of_lt_of_le z0_w15 bw16.size
      have z1_w16 : w11.heap.size < w16.heap.size := Nat.lt_of_lt_of_le z1_w15 bw16.size
      have z2_w16 : w13.heap.size < w16.heap.size := Nat.lt_of_lt_of_le z2_w15 bw16.size
      have B_w16 := bt B_w15 bw16
      clear T0_w15 T_w15 T1_w15 B1_w15 T2_w15 B2_w15 T3_w15 z0_w15 z1_w15 z2_w15 B_w15 bw16
      have z3_w16 : w15.heap.size < w16.heap.size := Xw16.lt
      clear Xw16
      go_at_call 11
      (with_reducible refine (find_yes T1_w16.out.tab (fok.out _ R1.out) Eq.out).mono ?_)
      rintro e w17 ⟨rfl, hb17⟩
      have T0_w17 := Lib.hid (T0_w16.out.below hb17)
      have T_w17 := Lib.hid (T_w16.out.below hb17)
      have T1_w17 := Lib.hid (T1_w16.out.below hb17)
      have B1_w17 := Lib.hid (B1_w16.out.below hb17)
      have T2_w17 := Lib.hid (T2_w16.out.below hb17)
      have B2_w17 := Lib.hid (B2_w16.out.below hb17)
      have T3_w17 := Lib.hid (T3_w16.out.below hb17)
      have B3_w17 := Lib.hid (B3_w16.out.below hb17)
      have z0_w17 : w.heap.size < w17.heap.size := Nat.lt_of_lt_of_le z0_w16 hb17.size
      have z1_w17 : w11.heap.size < w17.heap.size := Nat.lt_of_lt_of_le z1_w16 hb17.size
      have z2_w17 : w13.heap.size < w17.heap.size := Nat.lt_of_lt_of_le z2_w16 hb17.size
      have z3_w17 : w15.heap.size < w17.heap.size := Nat.lt_of_lt_of_le z3_w16 hb17.size
      have B_w17 := bt B_w16 hb17
      clear T0_w16 T_w16 T1_w16 B1_w16 T2_w16 B2_w16 T3_w16 B3_w16 z0_w16 z1_w16 z2_w16 z3_w16 B_w16 hb17
      have o_B2_0 := B2_w17.out.c (i := 0) rfl
      have o_B2_1 := B2_w17.out.c (i := 1) rfl
      have o_B2_2 := B2_w17.out.c (i := 2) rfl
      go_wp2_with fail
      clear o_B2_0 o_B2_1 o_B2_2
      go_at_call 11
      (with_reducible refine (find_yes T2_w17.out.tab (fok.out _ R2.out) Eu.out).mono ?_)
      rintro e w18 ⟨rfl, hb18⟩
      have T0_w18 := Lib.hid (T0_w17.out.below hb18)
      have T_w18 := Lib.hid (T_w17.out.below hb18)
      have T1_w18 := Lib.hid (T1_w17.out.below hb18)
      have B1_w18 := Lib.hid (B1_w17.out.below hb18)
      have T2_w18 := Lib.hid (T2_w17.out.below hb18)
      have B2_w18 := Lib.hid (B2_w17.out.below hb18)
      have T3_w18 := Lib.hid (T3_w17.out.below hb18)
      have B3_w18 := Lib.hid (B3_w17.out.below hb18)
      have z0_w18 : w.heap.size < w18.heap.size := Nat.lt_of_lt_of_le z0_w17 hb18.size
      have z1_w18 : w11.heap.size < w18.heap.size := Nat.lt_of_lt_of_le z1_w17 hb18.size
      have z2_w18 : w13.heap.size < w18.heap.size := Nat.lt_of_lt_of_le z2_w17 hb18.size
      have z3_w18 : w15.heap.size < w18.heap.size := Nat.lt_of_lt_of_le z3_w17 hb18.size
      have B_w18 := bt B_w17 hb18
      clear T0_w17 T_w17 T1_w17 B1_w17 T2_w17 B2_w17 T3_w17 B3_w17 z0_w17 z1_w17 z2_w17 z3_w17 B_w17 hb18
      have o_B3_0 := B3_w18.out.c (i := 0) rfl
      have o_B3_1 := B3_w18.out.c (i := 1) rfl
      have o_B3_2 := B3_w18.out.c (i := 2) rfl
      go_wp2_with fail
      clear o_B3_0 o_B3_1 o_B3_2
      go_at_call 11
      (with_reducible refine (find_yes T3_w18.out.tab (fok.out _ R3.out) Ev.out).mono ?_)
      rintro e w19 ⟨rfl, hb19⟩
      have T0_w19 := Lib.hid (T0_w18.out.below hb19)
      have T_w19 := Lib.hid (T_w18.out.below hb19)
      have T1_w19 := Lib.hid (T1_w18.out.below hb19)
      have B1_w19 := Lib.hid (B1_w18.out.below hb19)
      have T2_w19 := Lib.hid (T2_w18.out.below hb19)
      have B2_w19 := Lib.hid (B2_w18.out.below hb19)
      have T3_w19 := Lib.hid (T3_w18.out.below hb19)
      have B3_w19 := Lib.hid (B3_w18.out.below hb19)
      have z0_w19 : w.heap.size < w19.heap.size := Nat.lt_of_lt_of_le z0_w18 hb19.size
      have z1_w19 : w11.heap.size < w19.heap.size := Nat.lt_of_lt_of_le z1_w18 hb19.size
      have z2_w19 : w13.heap.size < w19.heap.size := Nat.lt_of_lt_of_le z2_w18 hb19.size
      have z3_w19 : w15.heap.size < w19.heap.size := Nat.lt_of_lt_of_le z3_w18 hb19.size
      have B_w19 := bt B_w18 hb19
      clear T0_w18 T_w18 T1_w18 B1_w18 T2_w18 B2_w18 T3_w18 B3_w18 z0_w18 z1_w18 z2_w18 z3_w18 B_w18 hb19
      have o_T0_0 := T0_w19.out.c (i := 0) rfl
      have o_T0_1 := T0_w19.out.c (i := 1) rfl
      have o_T0_2 := T0_w19.out.c (i := 2) rfl
      go_wp2_with fail
      clear o_T0_0 o_T0_1 o_T0_2
      go_at_call 24
      (with_reducible refine (unpin_no T_w19.out h.out hm.out hpin.out).mono ?_)
      rintro e w20 ⟨A4, n4, c4, rfl, _, hb20⟩
      have T0_w20 := Lib.hid (T0_w19.out.below hb20)
      have T_w20 := Lib.hid (T_w19.out.below hb20)
      have T1_w20 := Lib.hid (T1_w19.out.below hb20)
      have B1_w20 := Lib.hid (B1_w19.out.below hb20)
      have T2_w20 := Lib.hid (T2_w19.out.below hb20)
      have B2_w20 := Lib.hid (B2_w19.out.below hb20)
      have T3_w20 := Lib.hid (T3_w19.out.below hb20)
      have B3_w20 := Lib.hid (B3_w19.out.below hb20)
      have z0_w20 : w.heap.size < w20.heap.size := Nat.lt_of_lt_of_le z0_w19 hb20.size
      have z1_w20 : w11.heap.size < w20.heap.size := Nat.lt_of_lt_of_le z1_w19 hb20.size
      have z2_w20 : w13.heap.size < w20.heap.size := Nat.lt_of_lt_of_le z2_w19 hb20.size
      have z3_w20 : w15.heap.size < w20.heap.size := Nat.lt_of_lt_of_le z3_w19 hb20.size
      have B_w20 := bt B_w19 hb20
      clear T0_w19 T_w19 T1_w19 B1_w19 T2_w19 B2_w19 T3_w19 B3_w19 z0_w19 z1_w19 z2_w19 z3_w19 B_w19 hb20
      go_wp2_with fail
      obtain ⟨w21, hw21⟩ : ∃ W, W = w20.alloc (.cells #[.slice A4 n4 c4, .int .i64 0, .int .i64 0] 24) := ⟨_, rfl⟩
      have bw21 : Below w20.heap.size w20 w21 := by rw [hw21]; exact (Below.refl _ _).alloc (Nat.le_refl _) _
      have Xw21 : Bx w21 w20.heap.size 24 #[.slice A4 n4 c4, .int .i64 0, .int .i64 0] := by rw [hw21]; exact Bx.new _ _ _ rfl
      rw [← hw21]
      clear hw21
      have T0_w21 := Lib.hid (T0_w20.out.below bw21)
      have T_w21 := Lib.hid (T_w20.out.below bw21)
      have T1_w21 := Lib.hid (T1_w20.out.below bw21)
      have B1_w21 := Lib.hid (B1_w20.out.below bw21)
      have T2_w21 := Lib.hid (T2_w20.out.below bw21)
      have B2_w21 := Lib.hid (B2_w20.out.below bw21)
      have T3_w21 := Lib.hid (T3_w20.out.below bw21)
      have B3_w21 := Lib.hid (B3_w20.out.below bw21)
      have B4_w21 := Lib.hid (Xw21)
      have z0_w21 : w.heap.size < w21.heap.size := Nat.lt_of_lt_of_le z0_w20 bw21.size
      have z1_w21 : w11.heap.size < w21.heap.size := Nat.lt_of_lt_of_le z1_w20 bw21.size
      have z2_w21 : w13.heap.size < w21.heap.size := Nat.lt_of_lt_of_le z2_w20 bw21.size
      have z3_w21 : w15.heap.size < w21.heap.size := Nat.lt_of_lt_of_le z3_w20 bw21.size
      have B_w21 := bt B_w20 bw21
      clear T0_w20 T_w20 T1_w20 B1_w20 T2_w20 B2_w20 T3_w20 B3_w20 z0_w20 z1_w20 z2_w20 z3_w20 B_w20 bw21
      have z4_w21 : w20.heap.size < w21.heap.size := Xw21.lt
      clear Xw21
      go_at_call 14
      (with_reducible refine (alive_any _).mono ?_)
      rintro e w22 ⟨rfl, hb22⟩
      have T0_w22 := Lib.hid (T0_w21.out.below hb22)
      have T_w22 := Lib.hid (T_w21.out.below hb22)
      have T1_w22 := Lib.hid (T1_w21.out.below hb22)
      have B1_w22 := Lib.hid (B1_w21.out.below hb22)
      have T2_w22 := Lib.hid (T2_w21.out.below hb22)
      have B2_w22 := Lib.hid (B2_w21.out.below hb22)
      have T3_w22 := Lib.hid (T3_w21.out.below hb22)
      have B3_w22 := Lib.hid (B3_w21.out.below hb22)
      have B4_w22 := Lib.hid (B4_w21.out.below hb22)
      have z0_w22 : w.heap.size < w22.heap.size := Nat.lt_of_lt_of_le z0_w21 hb22.size
      have z1_w22 : w11.heap.size < w22.heap.size := Nat.lt_of_lt_of_le z1_w21 hb22.size
      have z2_w22 : w13.heap.size < w22.heap.size := Nat.lt_of_lt_of_le z2_w21 hb22.size
      have z3_w22 : w15.heap.size < w22.heap.size := Nat.lt_of_lt_of_le z3_w21 hb22.size
      have z4_w22 : w20.heap.size < w22.heap.size := Nat.lt_of_lt_of_le z4_w21 hb22.size
      have B_w22 := bt B_w21 hb22
      clear T0_w21 T_w21 T1_w21 B1_w21 T2_w21 B2_w21 T3_w21 B3_w21 B4_w21 z0_w21 z1_w21 z2_w21 z3_w21 z4_w21 B_w21 hb22
      go_wp2_with fail
      go_ret
      exact ⟨rfl, B_w22⟩
end Go.Proofs.Ytnghilcjecjljaa.FdbP
