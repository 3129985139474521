/-
  Contracts of footwayref17's May, Reach.
-/
import Derived.Test.YtgcmklliafcffaaFloodU
import Derived.Test.YtgcmklliafcffaaLanT
import Derived.BigRegion
namespace Go.Proofs.Ytgcmklliafcffaa.LanP
open Go.RowKit Go.Sort Go.Proofs.Ytgcmklliafcffaa.SliceP Go.Proofs.Ytgcmklliafcffaa.BoxP
open Go.Proofs.Ytgcmklliafcffaa.IntP (RowI SlI OwnI)
open Go.Proofs.Ytgcmklliafcffaa.BoolP (RowB SlB OwnB)
open Go.Proofs.Ytgcmklliafcffaa.MacP (arr_out Wrote wp_region_ends outM)
set_option linter.unusedVariables false
set_option maxRecDepth 100000
theorem row_lt {α : Type} {g : α → List Value} {sz : Nat} {w : World} {A : Option Addr} {n c : Nat} {l : List α} (h : Row g sz w A n c l) (h0 : 0 < l.length) : ∀ a, A = some a → a.block < w.heap.size := fun a ha => by
  obtain ⟨b, o, hA, hlt, _⟩ := h.sl (by intro q; have := congrArg List.length q; rw [List.length_map, List.length_nil] at this; omega)
  rw [hA] at ha
  obtain rfl := Option.some.inj ha
  exact hlt
set_option maxHeartbeats 16000000 in
theorem t_may {l : L} {A : Option Addr} {c : Nat} {B : Option Addr} {d : Nat} {w : World} {O : List (List Bool)} {C : Option Addr} {e : Nat} (hr : LanR w l A c B d) (hs : Small l) (hR : RowL bc w C O.length e O) (hO : O.length ≤ 1000) (hO2 : ∀ r ∈ O, r.length ≤ 1000) {v : Bool} (he : (l.ok && rowsB l O) = v) :
    Calls Try.prog 27 #[lv l A c B d, .slice C O.length e] w fun en w' => en = .returned (.bool v) ∧ Below w.heap.size w w' := by
  obtain ⟨w0, hw0, X0, R0, B0⟩ := new3 w hr
  have hn8 := hs.plans
  have hpm := Lib.hid hs.ports
  obtain ⟨k0, hk0⟩ : ∃ k, l.ok = k := ⟨_, rfl⟩
  have hRT := Lib.hid (r_right R0 hs (b := k0) hk0)
  rw [hk0] at he
  have HP := Lib.hid R0.plans
  have HO := Lib.hid (hR.below B0)
  replace X0 := Lib.hid X0
  replace B0 := Lib.hid B0
  replace hk0 := Lib.hid hk0
  replace hO2 := Lib.hid hO2
  replace he := Lib.hid he
  clear hr hR R0 hs
  go_enter Try.func27, Try.ntmps27
  go_upto_region 1 with fail
  rw [← hw0]
  clear hw0
  have x0 := X0.out.c (i := 0) rfl
  have x1 := X0.out.c (i := 1) rfl
  have x2 := X0.out.c (i := 2) rfl
  have zz := X0.out.lt
  go_wp2_with fail
  go_at_call 13
  (with_reducible refine hRT.out.mono ?_)
  rintro en w1 ⟨rfl, hb1⟩
  have X1 := Lib.hid (X0.out.below hb1)
  have b1 := Lib.hid hb1
  clear x0 x1 x2 zz hb1 hRT
  have x1 := X1.out.c (i := 1) rfl
  have zz := X1.out.lt
  cases k0
  · have hv : v = false := by rw [← he.out]; rfl
    subst hv
    go_wp2_with fail
    go_ret
    exact ⟨rfl, bt B0.out b1.out⟩
  · rw [Bool.true_and] at he
    by_cases hl : l.plans.length = O.length
    · have hbn : ((O.length : Int) != (l.plans.length : Int)) = false := by rw [hl]; simp
      have hb2 := Lib.hid (show rowsTo l O l.plans.length = v by have := he.out; unfold rowsB at this; rw [decide_eq_true hl] at this; simpa using this)
      have hl9 := Lib.hid hl
      clear hl
      go_wp2_with fail
      clear hbn x1 zz
      go_loopw [21] (fun i wr => ∃ k : Nat, k ≤ l.plans.length ∧ i = .int .i64 k ∧ rowsTo l O k = true ∧ Below w0.heap.size w0 wr) (fun i _ => l.plans.length - (intOf i).toNat)
      case atStart => exact ⟨0, by omega, rfl, rfl, b1.out⟩
      case round =>
        obtain ⟨k, hk, rfl, hrt, hb⟩ := hrel
        obtain ⟨wo, hwo⟩ : ∃ W, W = wr := ⟨_, rfl⟩
        subst hwo
        by_cases hkn : k < l.plans.length
        · have hkl : (k : Int) < (l.plans.length : Int) := by omega
          have hkO : k < O.length := by have := hl9.out; omega
          have hko : (k : Int) < (O.length : Int) := by omega
          obtain ⟨p, hp⟩ : ∃ p, l.plans[k]? = some p := ⟨_, List.getElem?_eq_getElem hkn⟩
          obtain ⟨y, hy⟩ : ∃ y, O[k]? = some y := ⟨_, List.getElem?_eq_getElem hkO⟩
          have hpp : pl l k = p := by have := plan_get hkn; rw [hp] at this; exact (Option.some.inj this).symm
          have hyy : O.getD k [] = y := by rw [List.getD_eq_getElem?_getD, hy]; rfl
          have hsu := rowsTo_succ l O k
          rw [hrt, Bool.true_and, hpp, hyy] at hsu
          have hp10 := hpm.out p (List.mem_of_getElem? hp)
          have hy10 := hO2.out y (List.mem_of_getElem? hy)
          obtain ⟨bS8, oS8, A8, c8, hAS8, hbS8, q8_0, q8_1, hrow8⟩ := RowP.at_ (HP.out.below hb) hp
          obtain ⟨b5, o5, A6, c6, hCC, hb5, u0, ROW⟩ := (HO.out.below hb).at_ hy
          subst hAS8; subst hCC
          have hcap6 := ROW.cap
          have hmx6 := ROW.mx
          have hcap8 := hrow8.cap
          have hmx8 := hrow8.mx
          obtain ⟨w8, hw8⟩ : ∃ W, W = wo.alloc (.cells #[.int .i64 p.id, .slice A8 p.ports.length c8] 60) := ⟨_, rfl⟩
          obtain ⟨b7, hb7⟩ : ∃ b, b = wo.heap.size := ⟨_, rfl⟩
          have bb8 : Below wo.heap.size wo w8 := by rw [hw8]; exact (Below.refl _ _).alloc (Nat.le_refl _) _
          have X8 := Lib.hid (show Bx w8 b7 60 #[.int .i64 p.id, .slice A8 p.ports.length c8] by rw [hw8]; exact Bx.new _ _ _ hb7.symm)
          have U8 := Lib.hid (cellb bb8 hb5 u0)
          have Z8 := Lib.hid (Nat.lt_of_lt_of_le hb5 bb8.size)
          have b8 := Lib.hid (bt hb bb8)
          replace hp := Lib.hid hp
          replace hy := Lib.hid hy
          replace hpp := Lib.hid hpp
          replace hyy := Lib.hid hyy
          replace hrt := Lib.hid hrt
          replace hsu := Lib.hid hsu
          clear hb bb8 hrow8 ROW u0 hb5
          go_upto_region 6 with fail
          rw [← hw8, ← hb7]
          clear hw8 hb7 q8_0 q8_1 hbS8
          have K0 := cell_regrown U8.out
          have K1 := cell_regrown (X8.out.c (i := 1) rfl)
          by_cases hq : p.ports.length = y.length
          · have hd : ((y.length : Int) != (p.ports.length : Int)) = false := by rw [hq]; simp
            have hsu9 := Lib.hid (show rowsTo l O (k + 1) = true by rw [hsu.out, decide_eq_true hq])
            replace hq := Lib.hid hq
            refine wp_region_quiet_below (by kernel_rfl) (by kernel_rfl) ?_
            repeat (first | go_big_quiet_step (fail) | quiet_step (fail))
            refine wpQuiet_nil ?_
            intro _ hw'
            obtain ⟨⟨dq, osq⟩, hw''⟩ := hw'
            subst hw''
            have hq9 := below_regrown w8 dq osq
            clear K0 K1
            generalize Go.Sort.grow (redrawn w8 dq) osq = w9 at *
            have b9 := Lib.hid (bt b8.out hq9)
            clear hq9
            go_wp2_with fail
            go_roundw
            case rel => exact ⟨k + 1, by omega, by go_num, hsu9.out, b9.out⟩
            case measure => simp [intOf]; omega
          · have hd : ((y.length : Int) != (p.ports.length : Int)) = true := by simp; omega
            have hv : v = false := by
              rw [← hb2.out]
              exact rowsTo_no (m := k + 1) (by rw [hsu.out, decide_eq_false hq]) (by omega)
            subst hv
            replace hq := Lib.hid hq
            refine wp_region_quiet_below (by kernel_rfl) (by kernel_rfl) ?_
            repeat (first | go_big_quiet_step (fail) | quiet_step (fail))
            refine wpQuiet_nil ?_
            intro _ hw'
            obtain ⟨⟨dq, osq⟩, hw''⟩ := hw'
            subst hw''
            have hq9 := below_regrown w8 dq osq
            clear K0 K1
            generalize Go.Sort.grow (redrawn w8 dq) osq = w9 at *
            have b9 := Lib.hid (bt b8.out hq9)
            clear hq9
            go_wp2_with fail
            go_ret
            exact ⟨rfl, bt B0.out b9.out⟩
        · obtain rfl : k = l.plans.length := by omega
          have hv : v = true := by rw [← hb2.out]; exact hrt
          subst hv
          have b9 := Lib.hid hb
          clear hb
          go_wp2_with fail
          go_ret
          exact ⟨rfl, bt B0.out b9.out⟩
    · have hbn : ((O.length : Int) != (l.plans.length : Int)) = true := by simp; omega
      have hv : v = false := by rw [← he.out]; unfold rowsB; rw [decide_eq_false hl]; rfl
      subst hv
      replace hl := Lib.hid hl
      go_wp2_with fail
      go_ret
      exact ⟨rfl, bt B0.out b1.out⟩
def rchTo (g : Int → Int) (k : Nat) : List Int := ((List.range k).map Int.ofNat).filter fun s => decide (0 ≤ g s)
theorem rchTo_succ (g : Int → Int) (k : Nat) : rchTo g (k + 1) = rchTo g k ++ if 0 ≤ g (k : Int) then [(k : Int)] else [] := by
  unfold rchTo
  rw [List.range_succ, List.map_append, List.filter_append]
  congr 1
  by_cases h : 0 ≤ g (k : Int)
  · simp [h]
  · simp [h]
theorem rchTo_len (g : Int → Int) (k : Nat) : (rchTo g k).length ≤ k := by
  unfold rchTo
  have := List.length_filter_le (fun s : Int => decide (0 ≤ g s)) ((List.range k).map Int.ofNat)
  simpa using this
theorem rch_part {l : L} (hf : l.fit) {f : Int} (h0 : 0 ≤ f) (h1 : f < l.segs) : rchTo (l.dst f) l.n = l.part f := by
  have hs : (l.n : Int) = l.segs := by have := hf.1; unfold L.n; omega
  unfold rchTo L.part
  refine List.filter_congr fun x hx => ?_
  obtain ⟨k, hk, rfl⟩ := List.mem_map.1 hx
  have hk := List.mem_range.1 hk
  have h := dst_lab hf h0 h1 (dst_is hf h0 h1) (t := (k : Int)) (by omega) (by omega)
  show decide (0 ≤ l.dst f (k : Int)) = (lab l.pairs (k : Int) == lab l.pairs f)
  by_cases q : 0 ≤ l.dst f (k : Int)
  · rw [decide_eq_true q]; exact (beq_iff_eq.2 (h.1 q)).symm
  · rw [decide_eq_false q]; exact (beq_eq_false_iff_ne.2 fun z => q (h.2 z)).symm
set_option maxHeartbeats 16000000 in
theorem t_reach {l : L} {A : Option Addr} {c : Nat} {B : Option Addr} {d : Nat} {w : World} {O : List (List Bool)} {C : Option Addr} {e : Nat} (hr : LanR w l A c B d) (hs : Small l) (hR : RowL bc w C O.length e O) (hw : rowsB l O = true) (hfit : l.fit) (h8 : l.n ≤ 8) {f : Nat} (hfn : f < l.n) :
    Calls Try.prog 32 #[lv l A c B d, .slice C O.length e, .int .i64 (f : Int)] w fun en w' => ∃ A' c', en = .returned (.slice A' ((l.op O).part (f : Int)).length c') ∧ Row ic 1 w' A' ((l.op O).part (f : Int)).length c' ((l.op O).part (f : Int)) ∧ Below w.heap.size w w' := by
  have hn : (l.n : Int) = l.segs := by have := hfit.1; unfold L.n; omega
  have hres := rch_part (op_fit hfit O) (f := (f : Int)) (by omega) (by rw [op_segs]; omega)
  rw [op_n] at hres
  have hTS := Lib.hid (fun (W : World) (hW : Below w.heap.size w W) => t_steps (hr.below hW) hs (hR.below hW) hw h8 hfn)
  obtain ⟨p, hp⟩ : ∃ p, l.op O = p := ⟨_, rfl⟩
  rw [hp] at hres hTS ⊢
  have hat : ∀ k : Nat, k < l.n → (stpR p (f : Int))[k]? = some (p.dst (f : Int) (k : Int)) := fun k hk => by rw [← hp]; exact stp_at (op_fit hfit O) (by rw [op_segs]; omega)
  have hlen : (stpR p (f : Int)).length = l.n := by rw [stp_len, ← hp]; rfl
  rw [← hres]
  obtain ⟨n, hnn⟩ : ∃ n, l.n = n := ⟨_, rfl⟩
  rw [hnn] at hat hlen h8 hfn ⊢
  obtain ⟨RS, hRS⟩ : ∃ r, stpR p (f : Int) = r := ⟨_, rfl⟩
  rw [hRS] at hat hlen hTS
  subst hlen
  obtain ⟨G, hG⟩ : ∃ g, p.dst (f : Int) = g := ⟨_, rfl⟩
  rw [hG] at hat ⊢
  obtain ⟨w0, hw0, X0, R0, B0⟩ := new3 w hr
  replace hat := Lib.hid hat
  replace X0 := Lib.hid X0
  replace B0 := Lib.hid B0
  replace hp := Lib.hid hp
  replace hnn := Lib.hid hnn
  replace hn := Lib.hid hn
  replace hG := Lib.hid hG
  replace hRS := Lib.hid hRS
  replace hres := Lib.hid hres
  replace hs := Lib.hid hs
  replace hw := Lib.hid hw
  replace hfit := Lib.hid hfit
  clear hr hR R0
  obtain ⟨g1, hg1⟩ : ∃ g, g = w.heap.size + 1 := ⟨_, rfl⟩
  obtain ⟨w1, hw1⟩ : ∃ W, W = w0.alloc (.cells #[] 3) := ⟨_, rfl⟩
  have bb1 : Below w0.heap.size w0 w1 := by rw [hw1]; exact (Below.refl _ _).alloc (Nat.le_refl _) _
  have O1 := Lib.hid (show Own w1 w0.heap.size 3 1 (.slice (some ⟨g1, 0, none⟩) 0 0) [] by rw [hw1, hg1, show w.heap.size + 1 = w0.heap.size by rw [hw0]; simp]; exact own_lit0 w0 _ _)
  have B1 := Lib.hid (bt B0.out bb1)
  have X1 := Lib.hid (X0.out.below bb1)
  go_enter Try.func32, Try.ntmps32
  go_upto_region 2 with fail
  rw [← hw0, ← hw1, ← hg1]
  obtain ⟨bz, hbz⟩ : ∃ b, b = w0.heap.size := ⟨_, rfl⟩
  rw [← hbz] at O1
  clear hw0 hw1
  replace hg1 := Lib.hid hg1
  have x0 := X1.out.c (i := 0) rfl
  have x1 := X1.out.c (i := 1) rfl
  have x2 := X1.out.c (i := 2) rfl
  have zz := X1.out.lt
  have hb01 := Lib.hid (show bz ≤ w1.heap.size by rw [hbz]; exact bb1.size)
  replace hbz := Lib.hid hbz
  clear bb1
  go_wp2_with fail
  go_at_call 30
  (with_reducible refine (hTS.out _ B1.out).mono ?_)
  rintro en w2 ⟨AS, cS, rfl, rS, fS, hb2⟩
  have FS := Lib.hid (fun a (ha : AS = some a) => (show w1.heap.size ≤ a.block ∧ a.block < w2.heap.size from ⟨fS a ha, row_lt rS (by omega) a ha⟩))
  clear fS
  have hg1w := Lib.hid (show g1 < w1.heap.size from (own_far O1.out _ rfl).2)
  have RSr := Lib.hid rS
  have O2 := Lib.hid (O1.out.below hb2)
  have B2 := Lib.hid (bt B1.out hb2)
  have hbz2 := Lib.hid (Nat.le_trans hb01.out hb2.size)
  have hwz := Lib.hid (show w.heap.size ≤ bz by rw [hbz.out]; exact B0.out.size)
  clear x0 x1 x2 zz hb2 rS hTS O1 X1 B1
  go_wp2_with fail
  go_loopw [7, 8, 9, 16] (fun v u8 u9 i wr => ∃ k : Nat, k ≤ RS.length ∧ i = .int .i64 k ∧ Own wr bz 3 1 v ((rchTo G k).map ic) ∧ (∀ j, v.ownBlock = some j → j < w1.heap.size ∨ w2.heap.size ≤ j) ∧ bz ≤ wr.heap.size ∧ w2.heap.size ≤ wr.heap.size ∧ Row ic 1 wr AS RS.length cS RS ∧ Below w.heap.size w wr) (fun _ _ _ i _ => RS.length - (intOf i).toNat)
  case atStart => exact ⟨0, by omega, rfl, O2.out, (fun j hj => .inl (by have e : g1 = j := Option.some.inj hj; rw [← e]; exact hg1w.out)), hbz2.out, Nat.le_refl _, RSr.out, B2.out⟩
  case round =>
    clear O2 RSr B2
    obtain ⟨k, hk, rfl, hown, hoj, hsz, hs2, hrow, hb⟩ := hrel
    obtain ⟨wj, hwj⟩ : ∃ W, W = wr := ⟨_, rfl⟩
    subst hwj
    obtain ⟨A3, c3, hv3⟩ := own_form hown
    subst hv3
    replace hoj := Lib.hid hoj
    replace hs2 := Lib.hid hs2
    have hlk := rchTo_len G k
    by_cases hkn : k < RS.length
    · have hkl : (k : Int) < (RS.length : Int) := by omega
      have hx := hat.out k hkn
      have hsu := rchTo_succ G k
      obtain ⟨v, hv⟩ : ∃ v, G (k : Int) = v := ⟨_, rfl⟩
      rw [hv] at hx hsu
      obtain ⟨gP, oP, hAP, hgP, j0⟩ := Row.iat hrow hx
      obtain ⟨J, hJ⟩ : ∃ J, rchTo G k = J := ⟨_, rfl⟩
      rw [hJ] at hown hsu hlk hoj ⊢
      have own8 := Lib.hid hown
      have row8 := Lib.hid hrow
      have b8 := Lib.hid hb
      have hsz8 := Lib.hid hsz
      subst hAP
      replace hx := Lib.hid hx
      replace hv := Lib.hid hv
      replace hJ := Lib.hid hJ
      clear hown hrow hb hsz
      by_cases h0 : 0 ≤ v
      · rw [if_pos h0] at hsu
        replace hsu := Lib.hid hsu
        obtain ⟨w9, hw9⟩ : ∃ W, W = wj.alloc (.cells #[.int .i64 k] 3) := ⟨_, rfl⟩
        have b9 : Below wj.heap.size wj w9 := by rw [hw9]; exact (Below.refl _ _).alloc (Nat.le_refl _) _
        have hsl := Lib.hid (show Sl w9 1 (some ⟨wj.heap.size, 0, none⟩) ([(k : Int)].map ic) by rw [hw9]; exact IntP.SlI.one wj (k : Int) wj.heap.size rfl)
        have own9 := Lib.hid (own8.out.below b9)
        have row9 := Lib.hid (row8.out.below b9)
        have hs29 := Lib.hid (Nat.le_trans hs2.out b9.size)
        have hb9 := Lib.hid (bt b8.out b9)
        have hn1 : Hid ((J.map ic).length + ([(k : Int)].map ic).length ≤ 1000000) := Lib.hid (by rw [List.length_map]; simp; omega)
        have hvl : Hid ((J.map ic).length = J.length) := Lib.hid (List.length_map ..)
        have hB2 : Hid (bz ≤ w9.heap.size) := Lib.hid (Nat.le_trans hsz8.out b9.size)
        clear b9
        go_wp2_with (at_builtin; rw [← hw9]; (refine wpList_append_sl rfl (.tmp 23) (.tmp 25) 43 rfl IntP.elI (by rfl) own9.out (by rfl) (by rfl) hsl.out (IntP.whole [(k : Int)]) (fun h => by cases h) hn1.out hB2.out ?_); intro v' w4 own1 grow1 new1)
        have b4 : Below w.heap.size w w4 := hb9.out.grown grow1 hb9.out.size (fun j hj => Nat.le_trans hwz.out (own9.out.lt j hj).1)
        have row4 : Row ic 1 w4 (some ⟨gP, oP, none⟩) RS.length cS RS := Row.grown row9.out grow1 (fun a ha hlt hq => by
          have h1 := FS.out a ha
          have h2 := hoj.out _ hq.symm
          omega)
        have hoj4 : ∀ j, v'.ownBlock = some j → j < w1.heap.size ∨ w2.heap.size ≤ j := fun j hj => by
          rcases new1 with h | h
          · exact hoj.out j (h.symm.trans hj)
          · rw [h] at hj
            obtain rfl := Option.some.inj hj
            exact .inr hs29.out
        go_roundw
        case rel => exact ⟨k + 1, by omega, by go_num, by rw [hsu.out]; exact own_snoc own1, hoj4, Nat.le_trans hB2.out grow1.size, Nat.le_trans hs29.out grow1.size, row4, b4⟩
        case measure => simp [intOf]; omega
      · rw [if_neg h0, List.append_nil] at hsu
        replace hsu := Lib.hid hsu
        go_wp2_with fail
        go_roundw
        case rel => exact ⟨k + 1, by omega, by go_num, by rw [hsu.out]; exact own8.out, hoj.out, hsz8.out, hs2.out, row8.out, b8.out⟩
        case measure => simp [intOf]; omega
    · obtain rfl : k = RS.length := by omega
      have own8 := Lib.hid hown
      have b8 := Lib.hid hb
      clear hown hb
      go_wp2_with fail
      go_ret
      exact ⟨A3, c3, rfl, Row.own own8.out (by decide), b8.out⟩
end Go.Proofs.Ytgcmklliafcffaa.LanP
