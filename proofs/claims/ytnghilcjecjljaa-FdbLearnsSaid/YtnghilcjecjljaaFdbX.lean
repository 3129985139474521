/-
  FdbCrowds whole.
-/
import Derived.Test.YtnghilcjecjljaaFdbW
import Derived.Test.YtnghilcjecjljaaFdbU
namespace Go.Proofs.Ytnghilcjecjljaa.FdbP
open Go.RowKit Go.Sort Go.Proofs.Ytnghilcjecjljaa.SliceP Go.Proofs.Ytnghilcjecjljaa.MacP
set_option linter.unusedVariables false
set_option maxRecDepth 100000

theorem in_row {w : World} {v : Value} (h : IntP.InI w v) : ∃ A n c L, v = .slice A n c ∧ IntP.RowI w A n c L ∧ c ≤ 9223372036854775807 := by
  rcases h with rfl | ⟨a, L, cap, rfl, h1, h2, h3⟩
  · exact ⟨none, 0, 0, [], rfl, IntP.RowI.empty w, by omega⟩
  · exact ⟨some a, L.length, cap, L, rfl, ⟨rfl, h3, h1, fun h => by cases h⟩, h2⟩
theorem modw_bd (n m : Int) (h0 : 0 < m) (h1 : m ≤ 1000) : 0 ≤ (wrap64 (n.tmod m + m)).tmod m ∧ (wrap64 (n.tmod m + m)).tmod m < m := by
  obtain ⟨h2, h3, h4, h5⟩ := mod8_bd n m h0 h1
  rw [IntWalk.wrap64_in _ (by omega)]
  exact ⟨h2, h3⟩
theorem macB_two {y : Int} (h0 : 0 ≤ y) (h1 : y < 12) : macB (2 * y) = true := by
  have := macB_small (2 * y).toNat (by omega)
  rwa [Int.toNat_of_nonneg (by omega)] at this
theorem MapF.block {w : World} {b n : Nat} {f : Int → Int} {ks : List Int} (h : MapP.MapF w b n f ks) : ∃ es clock, w.heap[b]? = some (.map es clock) := by
  obtain ⟨D, h1, _⟩ := h
  unfold World.ownsMap at h1
  obtain ⟨es, clock, h2, _⟩ := h1
  exact ⟨es, clock, h2⟩
theorem Hi.grown {B b : Nat} {w w' : World} (hg : w.grownBy w' (some b)) (hb : ∃ es clock, w.heap[b]? = some (.map es clock)) : Hi B w w' := ⟨hg.size, fun d cs T fr _ h2 _ => by
  obtain ⟨es, clock, he⟩ := hb
  refine (hg.block d (Array.getElem?_eq_some_iff.1 h2).1 ?_).trans h2
  intro e
  obtain rfl := Option.some.inj e
  rw [he] at h2
  cases h2⟩
theorem Bx.grown' {w w' : World} {b c : Nat} {T : TypeId} {vals : Array Value} (h : Bx w b T vals) (hg : w.grownBy w' (some c)) (hc : ∃ es clock, w.heap[c]? = some (.map es clock)) : Bx w' b T vals := Bx.grown h hg fun e => by
  obtain rfl := Option.some.inj e
  obtain ⟨es, clock, he⟩ := hc
  unfold Bx at h
  rw [he] at h
  cases h
theorem new_yes {n s ag : Int} {w : World} (h : sizesB n s ag = true) : Calls Try.prog 9 #[.int .i64 n, .int .i64 s, .int .i64 ag] w (RetTab w (List.replicate n.toNat []) s ag 0) :=
  fdNew n s ag w (by have := numB_cases (sizesB_num h); omega) true h
theorem learn_yes {A : Option Addr} {n c : Nat} {bs bs' : List (List E)} {s ag a port now : Int} {w : World} (ht : TabS w A n c bs) (h : learnOk bs s ag a port now = true) (hL : learnT bs s a port now = bs') : Calls Try.prog 10 #[tbv (.slice A n c) s ag, .int .i64 a, .int .i64 port, .int .i64 now] w (RetTab w bs' s ag 0) := by
  subst hL
  have h1 : rightT bs s ag = true := by unfold learnOk at h; rw [Bool.and_eq_true] at h; exact h.1
  exact fdLearn s ag a port now ht (right_small h1) true h
theorem right_empty {s ag : Int} (h : sizesB 1 s ag = true) : rightT [[]] s ag = true := by
  rw [right_iff]
  refine ⟨h, fun k l hk => ?_⟩
  match k, hk with
  | 0, hk =>
    obtain rfl : [] = l := by simpa using hk
    have : 1 ≤ s := by unfold sizesB at h; simp only [Bool.and_eq_true, decide_eq_true_eq] at h; exact h.2.1
    exact ⟨by simp; omega, by simp, fun x hx => by cases hx⟩
  | k + 1, hk => simp at hk
set_option maxHeartbeats 16000000 in
theorem crowds_law (s0 g0 p0 : Int) (v : Value) (a0 t0 : Int) {w : World} (_h0 : (Lit.int .i64 s0).wf = true) (_h1 : (Lit.int .i64 g0).wf = true) (_h2 : (Lit.int .i64 p0).wf = true) (h : IntP.InI w v) (_h4 : (Lit.int .i64 a0).wf = true) (_h5 : (Lit.int .i64 t0).wf = true) :
    Calls Try.prog 6 #[.int .i64 s0, .int .i64 g0, .int .i64 p0, v, .int .i64 a0, .int .i64 t0] w (IntP.True1 w) := by
  obtain ⟨A0, n0, c0, L0, rfl, hR, hbig⟩ := in_row h
  have hmm := @run_makeMap Try.prog
  replace hR := Lib.hid hR
  clear h _h0 _h1 _h2 _h4 _h5
  obtain ⟨s1, s2⟩ := modw_bd s0 4 (by omega) (by omega)
  obtain ⟨g1, g2⟩ := modw_bd g0 50 (by omega) (by omega)
  obtain ⟨p1, p2⟩ := modw_bd p0 8 (by omega) (by omega)
  obtain ⟨a1, a2⟩ := modw_bd a0 12 (by omega) (by omega)
  obtain ⟨t1, t2⟩ := modw_bd t0 60 (by omega) (by omega)
  obtain ⟨sx, hsx⟩ : ∃ x, (wrap64 (s0.tmod 4 + 4)).tmod 4 = x := ⟨_, rfl⟩
  obtain ⟨gx, hgx⟩ : ∃ x, (wrap64 (g0.tmod 50 + 50)).tmod 50 = x := ⟨_, rfl⟩
  obtain ⟨port, hport⟩ : ∃ x, (wrap64 (p0.tmod 8 + 8)).tmod 8 = x := ⟨_, rfl⟩
  obtain ⟨ax, hax⟩ : ∃ x, (wrap64 (a0.tmod 12 + 12)).tmod 12 = x := ⟨_, rfl⟩
  obtain ⟨wait, hwait⟩ : ∃ x, (wrap64 (t0.tmod 60 + 60)).tmod 60 = x := ⟨_, rfl⟩
  rw [hsx] at s1 s2
  rw [hgx] at g1 g2
  rw [hport] at p1 p2
  rw [hax] at a1 a2
  rw [hwait] at t1 t2
  obtain ⟨s, hsw⟩ : ∃ x, 1 + sx = x := ⟨_, rfl⟩
  obtain ⟨ag, hgw⟩ : ∃ x, 1 + gx = x := ⟨_, rfl⟩
  obtain ⟨a, haw⟩ : ∃ x, 2 * ax = x := ⟨_, rfl⟩
  have hs : 1 ≤ s ∧ s ≤ 4 := by omega
  have hg : 1 ≤ ag ∧ ag ≤ 50 := by omega
  have ha : 0 ≤ a ∧ a < 24 := by omega
  obtain ⟨hs1, hs2⟩ := hs
  obtain ⟨hg1, hg2⟩ := hg
  obtain ⟨ha1, ha2⟩ := ha
  have hma : macB a = true := by rw [← haw]; exact macB_two a1 a2
  have hpt := portB_iff.2 ⟨p1, p2⟩
  have h7 : portB (7 - port) = true := portB_iff.2 ⟨by omega, by omega⟩
  have hsz : sizesB 1 s ag = true := by unfold sizesB; simp only [Bool.and_eq_true, decide_eq_true_eq]; exact ⟨rfl, by omega, by omega, by omega, by omega⟩
  have hok0 : learnOk [[]] s ag a port 0 = true := by
    unfold learnOk
    rw [hma, hpt, timeB_iff.2 ⟨by omega, by omega⟩, right_empty hsz]; rfl
  obtain ⟨La, hLa, C0⟩ := Crowd.start (s := s) (ag := ag) (port := port) ⟨by omega, by omega⟩ ⟨by omega, by omega⟩ hma hpt
  replace hLa := Lib.hid hLa
  replace C0 := Lib.hid C0
  replace hok0 := Lib.hid hok0
  replace hma := Lib.hid hma
  replace hpt := Lib.hid hpt
  replace hsz := Lib.hid hsz
  have hcap := hR.out.cap
  obtain ⟨m, hm⟩ : ∃ m : Nat, m = min n0 20 := ⟨_, rfl⟩
  have hm1 : (min (n0 : Int) 20).toNat = m := by omega
  have hm2 : max (min (n0 : Int) 20) 0 = (m : Int) := by omega
  have hm3 : m ≤ 20 := by omega
  have hm4 : m ≤ L0.length := by have := hR.out.len; omega
  have hawf : (Lit.int .i64 a).wf = true := WalkArith.wf_i64 (by omega)
  obtain ⟨q7, hq7⟩ : ∃ x, 7 - port = x := ⟨_, rfl⟩
  rw [hq7] at h7
  have hw7 : wrap64 q7 = q7 := IntWalk.wrap64_in _ (by omega)
  replace h7 := Lib.hid h7
  replace hm4 := Lib.hid hm4
  replace hm := Lib.hid hm
  go_enter Try.func6, Try.ntmps6
  go_wp2_with fail
  go_at_call 9
  (with_reducible refine (new_yes hsz.out).mono ?_)
  rintro e w1 ⟨A1, n1, c1, rfl, T1, hb1⟩
  replace T1 : TabH w.heap.size w1 A1 n1 c1 [[]] := T1
  go_wp2_with fail
  obtain ⟨w2, hw2⟩ : ∃ W, W = w1.alloc (.cells #[.slice A1 n1 c1, .int .i64 s, .int .i64 ag] 24) := ⟨_, rfl⟩
  have X2 : Bx w2 w1.heap.size TT #[.slice A1 n1 c1, .int .i64 s, .int .i64 ag] := by rw [hw2]; exact Bx.new _ _ _ rfl
  have BB : Below w1.heap.size w1 w2 := by rw [hw2]; exact (Below.refl _ _).alloc (Nat.le_refl _) _
  have B2 := Lib.hid (bt hb1 BB)
  have T2 := Lib.hid (T1.below BB)
  have hp9 := Lib.hid hb1.size
  rw [← hw2]
  have hz2 : w1.heap.size < w2.heap.size := X2.lt
  clear hw2 hb1 T1 BB
  generalize w1.heap.size = p at *
  replace X2 := Lib.hid X2
  go_at_call 10
  (with_reducible refine (learn_yes T2.out.tab hok0.out hLa.out).mono ?_)
  rintro e w3 ⟨A3, n3, c3, rfl, T3, hb3⟩
  have T3' := Lib.hid (show TabH w.heap.size w3 A3 n3 c3 [La] from TabH.base T3 (Nat.le_trans hp9.out (Nat.le_of_lt hz2)))
  have X3 := Lib.hid (X2.out.below hb3)
  have B3 := Lib.hid (bt B2.out hb3)
  have hz3 := X3.out.lt
  clear T3 hb3 X2 T2 B2 hz2
  have d0 := X3.out.c (i := 0) rfl
  have d1 := X3.out.c (i := 1) rfl
  have d2 := X3.out.c (i := 2) rfl
  have f0 := X3.out.f 0
  have f1 := X3.out.f 1
  have f2 := X3.out.f 2
  go_wp2_with fail
  have hpm : w3.heap.size ≠ p := by omega
  obtain ⟨W, hW⟩ : ∃ W, W = (((w3.setCell ⟨p, 0, none⟩ (.slice A3 n3 c3)).setCell ⟨p, 1, none⟩ (.int .i64 s)).setCell ⟨p, 2, none⟩ (.int .i64 ag)).alloc (.map #[] 0) := ⟨_, rfl⟩
  have XW : Bx W p TT #[.slice A3 n3 c3, .int .i64 s, .int .i64 ag] := by rw [hW]; exact X3.out.three.alloc _
  have TW : TabH w.heap.size W A3 n3 c3 [La] := by rw [hW]; exact (T3'.out.hi (Hi.box3 X3.out _ _ _)).below ((Below.refl _ _).alloc (Nat.le_refl _) _)
  have BW : Below w.heap.size w W := by rw [hW]; exact (below3 B3.out hp9.out _ _ _).alloc (below3 B3.out hp9.out _ _ _).size _
  have MW : MapP.MapF W w3.heap.size 0 (fun _ => 0) [] := by rw [hW]; exact MapP.MapF.made _ (by simp)
  have hbm9 : w.heap.size ≤ w3.heap.size := B3.out.size
  rw [← hW]
  clear hW d0 d1 d2 f0 f1 f2 X3 T3' B3 hz3 hmm hsx hgx hport hax hwait hsw hgw haw p1 p2 hLa hok0 hpt hsz
  generalize w3.heap.size = mb at *
  replace XW := Lib.hid XW
  replace TW := Lib.hid TW
  replace BW := Lib.hid BW
  replace MW := Lib.hid MW
  replace hbm9 := Lib.hid hbm9
  go_loopw [73] (fun i wr => ∃ (k n : Nat) (L : List E) (ks : List Int) (f : Int → Int), k ≤ m ∧ n ≤ k ∧ i = .int .i64 k ∧ Below w.heap.size w wr ∧ (∃ A n' c', Bx wr p TT #[.slice A n' c', .int .i64 s, .int .i64 ag] ∧ TabH w.heap.size wr A n' c' [L]) ∧ Crowd s ag a port L ks ∧ MapP.MapF wr mb n f ks) (fun i _ => m - (intOf i).toNat)
  case atStart => exact ⟨0, 0, La, [], _, by omega, by omega, rfl, BW.out, ⟨_, _, _, XW.out, TW.out⟩, C0.out, MW.out⟩
  case round =>
    clear XW TW BW MW C0
    obtain ⟨k, n, L, ks, f, hk, hnk, rfl, hb, ⟨A, n', c', X, T⟩, C, M⟩ := hrel
    have e0 := X.c (i := 0) rfl
    have e1 := X.c (i := 1) rfl
    have e2 := X.c (i := 2) rfl
    have hpl := X.lt
    have hml := M.lt
    replace hb := Lib.hid hb
    replace X := Lib.hid X
    replace T := Lib.hid T
    replace M := Lib.hid M
    have hwr := Lib.hid hb.out.size
    by_cases hkm : k < m
    · obtain ⟨x0, hx0⟩ : ∃ x0, L0[k]? = some x0 := ⟨_, List.getElem?_eq_getElem (by have := hm4.out; omega)⟩
      obtain ⟨b0, o0, rfl, hbw, q0⟩ := IntP.SlI.at_ hR.out.sl hx0
      replace q0 := (hb.out.cell (p := ⟨b0, _, none⟩) hbw).trans q0
      have hbw2 : b0 < wr.heap.size := Nat.lt_of_lt_of_le hbw hb.out.size
      obtain ⟨y1, y2⟩ := modw_bd x0 12 (by omega) (by omega)
      obtain ⟨yx, hyx⟩ : ∃ x, (wrap64 (x0.tmod 12 + 12)).tmod 12 = x := ⟨_, rfl⟩
      rw [hyx] at y1 y2
      obtain ⟨x, hx⟩ : ∃ x, 2 * yx = x := ⟨_, rfl⟩
      have hmx : macB x = true := by rw [← hx]; exact macB_two y1 y2
      have hx1 : 0 ≤ x ∧ x < 24 := by omega
      obtain ⟨hx2, hx3⟩ := hx1
      have hxwf : (Lit.int .i64 x).wf = true := WalkArith.wf_i64 (by omega)
      replace hmx := Lib.hid hmx
      clear hx0 hbw
      by_cases hxa : x = a
      · have hxa' : (x == a) = true := by simpa using hxa
        replace hxa := Lib.hid hxa
        go_wp2_with fail
        go_roundw
        case rel => exact ⟨k + 1, n, L, ks, f, by omega, by omega, by go_num, hb.out, ⟨_, _, _, X.out, T.out⟩, C, M.out⟩
        case measure => simp [intOf]; omega
      · have hxa' : (x == a) = false := by simpa using hxa
        obtain ⟨hok, L', hL', C'⟩ := C.step hxa hmx.out h7.out
        replace hok := Lib.hid hok
        replace hL' := Lib.hid hL'
        replace C' := Lib.hid C'
        replace C := Lib.hid C
        go_wp2_with fail
        go_at_call 10
        (with_reducible refine (learn_yes T.out.tab hok.out hL'.out).mono ?_)
        rintro e w4 ⟨A4, n4, c4, rfl, T4, hb4⟩
        have T5 := Lib.hid (show TabH w.heap.size w4 A4 n4 c4 [L'] from TabH.base T4 hwr.out)
        have X4 := Lib.hid (X.out.below hb4)
        have M4 := Lib.hid (M.out.below hb4)
        have B4 := Lib.hid (hb.out.trans (hb4.mono hwr.out))
        have d0 := X4.out.c (i := 0) rfl
        have d1 := X4.out.c (i := 1) rfl
        have d2 := X4.out.c (i := 2) rfl
        have f0 := X4.out.f 0
        have f1 := X4.out.f 1
        have f2 := X4.out.f 2
        have hp4 := X4.out.lt
        have hm4' := M4.out.lt
        have M5 := Lib.hid fun (v0 v1 v2 : Value) (o : Obj) => (((M4.out.setCell hpm 0 v0).setCell hpm 1 v1).setCell hpm 2 v2).alloc o
        have X5 := Lib.hid fun (v0 v1 v2 : Value) (o : Obj) => (Bx.three (u0 := v0) (u1 := v1) (u2 := v2) X4.out).alloc o
        have T6 := Lib.hid fun (v0 v1 v2 : Value) (o : Obj) => (T5.out.hi (Hi.box3 X4.out v0 v1 v2)).below ((Below.refl _ _).alloc (Nat.le_refl _) o)
        have B5 := Lib.hid fun (v0 v1 v2 : Value) (o : Obj) => (below3 B4.out hp9.out v0 v1 v2).alloc (below3 B4.out hp9.out v0 v1 v2).size o
        clear T4 hb4 X T M e0 e1 e2 q0 hbw2 hpl hml hb
        go_wp2_with (first
          | (at_lookup; refine MapP.wpList_look rfl _ _ rfl rfl (M5.out _ _ _ _) rfl hxwf ?_)
          | (at_mapUpdate; refine MapP.wpList_store rfl _ _ _ rfl rfl (M5.out _ _ _ _) (by omega) rfl rfl hxwf (wrap64_wf _) ?_; intro w6 M6 g6)
          | go_in)
        go_roundw
        case rel => exact ⟨k + 1, n + 1, L', MapP.addK ks x, _, by omega, by omega, by go_num, (B5.out _ _ _ _).grown g6 (B5.out _ _ _ _).size (fun j hj => by cases hj; exact hbm9.out), ⟨_, _, _, (X5.out _ _ _ _).grown' g6 (MapF.block (M5.out _ _ _ _)), (T6.out _ _ _ _).hi (Hi.grown g6 (MapF.block (M5.out _ _ _ _)))⟩, C'.out, M6⟩
        case measure => simp [intOf]; omega
    · obtain rfl : k = m := by omega
      have hCf := C.found (wait := wait) t1
      have hok : findOk [L] s ag a wait = true := by
        unfold findOk
        rw [C.right, hma.out, timeB_iff.2 ⟨t1, by omega⟩]; rfl
      replace hok := Lib.hid hok
      clear C hm4
      by_cases h1 : s ≤ (ks.length : Int)
      · rw [if_pos h1] at hCf
        replace hCf := Lib.hid hCf
        go_wp2_with fail
        go_at_call 11
        (with_reducible refine (find_yes T.out.tab hok.out hCf.out).mono ?_)
        rintro e w4 ⟨rfl, hb4⟩
        have M4 := Lib.hid (M.out.below hb4)
        have B4 := Lib.hid (hb.out.trans (hb4.mono hwr.out))
        clear hb4 X T M e0 e1 e2 hpl hml hb
        go_wp2_with (first | (at_len; refine MapP.wpList_len rfl _ rfl rfl M4.out ?_))
        go_at_call 14
        (with_reducible refine (alive_any _).mono ?_)
        rintro e w5 ⟨rfl, hb5⟩
        have B6 := bt B4.out hb5
        go_wp2_with fail
        go_ret
        exact ⟨rfl, B6⟩
      · rw [if_neg h1] at hCf
        by_cases h2 : ag < wait
        · rw [if_pos h2] at hCf
          replace hCf := Lib.hid hCf
          go_wp2_with fail
          go_at_call 11
          (with_reducible refine (find_yes T.out.tab hok.out hCf.out).mono ?_)
          rintro e w4 ⟨rfl, hb4⟩
          have M4 := Lib.hid (M.out.below hb4)
          have B4 := Lib.hid (hb.out.trans (hb4.mono hwr.out))
          clear hb4 X T M e0 e1 e2 hpl hml hb
          go_wp2_with (first | (at_len; refine MapP.wpList_len rfl _ rfl rfl M4.out ?_))
          go_at_call 14
          (with_reducible refine (alive_any _).mono ?_)
          rintro e w5 ⟨rfl, hb5⟩
          have B6 := bt B4.out hb5
          go_wp2_with fail
          go_ret
          exact ⟨rfl, B6⟩
        · rw [if_neg h2] at hCf
          replace hCf := Lib.hid hCf
          go_wp2_with fail
          go_at_call 11
          (with_reducible refine (find_yes T.out.tab hok.out hCf.out).mono ?_)
          rintro e w4 ⟨rfl, hb4⟩
          have M4 := Lib.hid (M.out.below hb4)
          have B4 := Lib.hid (hb.out.trans (hb4.mono hwr.out))
          clear hb4 X T M e0 e1 e2 hpl hml hb
          go_wp2_with (first | (at_len; refine MapP.wpList_len rfl _ rfl rfl M4.out ?_))
          go_at_call 14
          (with_reducible refine (alive_any _).mono ?_)
          rintro e w5 ⟨rfl, hb5⟩
          have B6 := bt B4.out hb5
          go_wp2_with fail
          go_ret
          exact ⟨rfl, B6⟩
end Go.Proofs.Ytnghilcjecjljaa.FdbP
