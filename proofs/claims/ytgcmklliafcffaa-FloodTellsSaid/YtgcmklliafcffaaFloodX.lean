/-
  Contract of footwayref17's Path.
-/
import Derived.Test.YtgcmklliafcffaaFloodV
import Derived.Test.YtgcmklliafcffaaFloodP
import Derived.BigRegion
namespace Go.Proofs.Ytgcmklliafcffaa.LanP
open Go.RowKit Go.Sort Go.Proofs.Ytgcmklliafcffaa.SliceP Go.Proofs.Ytgcmklliafcffaa.BoxP
open Go.Proofs.Ytgcmklliafcffaa.IntP (RowI SlI OwnI)
open Go.Proofs.Ytgcmklliafcffaa.BoolP (RowB SlB OwnB)
open Go.Proofs.Ytgcmklliafcffaa.MacP (arr_out Wrote wp_region_ends outM)
set_option linter.unusedVariables false
set_option maxRecDepth 100000
def lnOf : Value → Nat | .slice _ n _ => n | _ => 0
set_option maxHeartbeats 16000000 in
theorem t_path {l : L} {A : Option Addr} {c : Nat} {B : Option Addr} {d : Nat} {w : World} {O : List (List Bool)} {C : Option Addr} {e : Nat} (hr : LanR w l A c B d) (hs : Small l) (hR : RowL bc w C O.length e O) (hw : rowsB l O = true) (hfit : l.fit) (h8 : l.n ≤ 8) {f t : Nat} (hfn : f < l.n) (htn : t < l.n) {D : Nat} (hD : (l.op O).dst (f : Int) (t : Int) = D) :
    Calls Try.prog 34 #[lv l A c B d, .slice C O.length e, .int .i64 (f : Int), .int .i64 (t : Int)] w fun en w' => ∃ A' c', en = .returned (.slice A' (pathR (l.op O) (f : Int) (t : Int)).length c') ∧ Row ic 1 w' A' (pathR (l.op O) (f : Int) (t : Int)).length c' (pathR (l.op O) (f : Int) (t : Int)) ∧ Below w.heap.size w w' := by
  have hn : (l.n : Int) = l.segs := by have := hfit.1; unfold L.n; omega
  have hTS := Lib.hid (fun (W : World) (hW : Below w.heap.size w W) => t_steps (hr.below hW) hs (hR.below hW) hw h8 hfn)
  have hLN := Lib.hid (fun (W : World) (hW : Below w.heap.size w W) (s t : Int) (hne : s ≠ t) => t_next (s := s) (t := t) (hr.below hW) hs (hR.below hW) hw hne)
  have hpf := op_fit hfit O
  have f0 : (0 : Int) ≤ (f : Int) := by omega
  have f1 : (f : Int) < (l.op O).segs := by rw [op_segs]; omega
  have hD8 := dst_lt hpf (dst_is hpf f0 f1) (t := (t : Int)) (by omega) (by rw [op_segs]; omega)
  have hpt := Lib.hid (pth_is hpf f0 f1 (t := (t : Int)) (by omega) (by rw [op_segs]; omega) hD)
  have hnr := Lib.hid (fun (s : Int) => nr_is hpf f0 f1 (s := s))
  have hat := Lib.hid (show ∀ k : Nat, (k : Int) < l.segs → (stpR (l.op O) (f : Int))[k]? = some ((l.op O).dst (f : Int) (k : Int)) from fun k hk => stp_at hpf (by rw [op_segs]; omega))
  have hlen : (stpR (l.op O) (f : Int)).length = l.n := by rw [stp_len, op_n]
  have hli := Lib.hid (fun s t h => lnk_in hpf (s := s) (t := t) h)
  rw [hD, op_segs] at hD8
  rw [op_segs] at hpt hnr hli
  obtain ⟨p, hp⟩ : ∃ p, l.op O = p := ⟨_, rfl⟩
  rw [hp] at hpt hnr hat hlen hD hTS hLN hli ⊢
  obtain ⟨RS, hRS⟩ : ∃ r, stpR p (f : Int) = r := ⟨_, rfl⟩
  rw [hRS] at hat hlen hTS
  have hres : pathR p (f : Int) (t : Int) = (pthTo p (f : Int) (t : Int) D).reverse := by unfold pathR; rw [hD]; rfl
  rw [hres, List.length_reverse, pthTo_len]
  have hRl : (RS.length : Int) = l.segs := by rw [hlen]; exact hn
  have hRl8 : RS.length ≤ 8 := by omega
  obtain ⟨w0, hw0, X0, R0, B0⟩ := new3 w hr
  replace X0 := Lib.hid X0
  replace B0 := Lib.hid B0
  replace hp := Lib.hid hp
  replace hRS := Lib.hid hRS
  replace hres := Lib.hid hres
  replace hD := Lib.hid hD
  replace hs := Lib.hid hs
  replace hw := Lib.hid hw
  replace hfit := Lib.hid hfit
  have htl : (t : Int) < (RS.length : Int) := by omega
  have hDb : D ≤ 8 := by omega
  replace hRl := Lib.hid hRl
  replace hn := Lib.hid hn
  clear hr hR R0 hpf f0 f1 hD8 hlen
  go_enter Try.func34, Try.ntmps34
  go_upto_region 1 with fail
  rw [← hw0]
  clear hw0
  have x0 := X0.out.c (i := 0) rfl
  have x1 := X0.out.c (i := 1) rfl
  have x2 := X0.out.c (i := 2) rfl
  have zz := X0.out.lt
  go_wp2_with fail
  go_at_call 30
  (with_reducible refine (hTS.out _ B0.out).mono ?_)
  rintro en w1 ⟨AS, cS, rfl, rS, fS, hb1⟩
  have RSr := Lib.hid rS
  have X1 := Lib.hid (X0.out.below hb1)
  have B1 := Lib.hid (bt B0.out hb1)
  clear x0 x1 x2 zz hb1 rS fS hTS
  obtain ⟨bz, hbz⟩ : ∃ b, b = w1.heap.size := ⟨_, rfl⟩
  obtain ⟨w2, hw2⟩ : ∃ W, W = w1.alloc (.cells #[.int .i64 (t : Int)] 3) := ⟨_, rfl⟩
  have b2 := Lib.hid (show Below w1.heap.size w1 w2 by rw [hw2]; exact (Below.refl _ _).alloc (Nat.le_refl _) _)
  have O2 := Lib.hid (show Own w2 bz 3 1 (.slice (some ⟨bz, 0, none⟩) 1 1) (((pthTo p (f : Int) (t : Int) 0).reverse).map ic) by rw [hw2, hbz]; exact IntP.own_lit w1 #[.int .i64 (t : Int)] [(t : Int)] w1.heap.size 1 (Nat.le_refl _) rfl rfl (by simp))
  go_upto_region 3 with fail
  rw [← hw2, ← hbz]
  clear hw2
  replace hbz := Lib.hid hbz
  go_wp2_with fail
  go_loopw [10, 11] (fun v10 v11 wr => ∃ k : Nat, k ≤ D ∧ v11 = .int .i64 (pthK p (f : Int) (t : Int) k) ∧ Own wr bz 3 1 v10 (((pthTo p (f : Int) (t : Int) k).reverse).map ic) ∧ Below w1.heap.size w1 wr) (fun v10 _ _ => 100 - lnOf v10)
  case atStart => exact ⟨0, by omega, rfl, O2.out, b2.out⟩
  case round =>
    clear O2 b2
    obtain ⟨k, hk, rfl, hown, hb⟩ := hrel
    obtain ⟨wo, hwo⟩ : ∃ W, W = wr := ⟨_, rfl⟩
    subst hwo
    obtain ⟨A3, c3, hv3⟩ := own_form hown
    rw [List.length_reverse, pthTo_len] at hv3
    subst hv3
    obtain ⟨⟨a0, a1⟩, a2⟩ := hpt.out k hk
    have hsu := pthTo_succ p (f : Int) (t : Int) k
    have hks : pthK p (f : Int) (t : Int) (k + 1) = nrS p (f : Int) (pthK p (f : Int) (t : Int) k) := rfl
    obtain ⟨ai, hai⟩ : ∃ z, pthK p (f : Int) (t : Int) k = z := ⟨_, rfl⟩
    rw [hai] at a0 a1 a2 hsu hks ⊢
    obtain ⟨a, rfl⟩ := nat_of a0 a1
    have hra := hat.out a a1
    rw [a2] at hra
    have hal : (a : Int) < (RS.length : Int) := by rw [hRl.out]; exact a1
    obtain ⟨E, hE⟩ : ∃ z : Int, (D : Int) - (k : Int) = z := ⟨_, rfl⟩
    rw [hE] at hra a2
    obtain ⟨gS, oS, hAS, hgS, j0⟩ := Row.iat (RSr.out.below hb) hra
    have RS9 := Lib.hid (RSr.out.below hb)
    have X9 := Lib.hid (X1.out.below hb)
    subst hAS
    by_cases hkD : k < D
    · have hE0 : E > 0 := by omega
      have hE0' : 0 < E := by omega
      have hE8 : E ≤ 8 := by omega
      obtain ⟨n1, n2, n3⟩ := hnr.out (a : Int) a0 a1 (by rw [a2]; exact hE0)
      rw [a2] at n2 n3
      have own8 := Lib.hid hown
      have b8 := Lib.hid hb
      replace hE := Lib.hid hE
      replace hra := Lib.hid hra
      have ha2 := Lib.hid a2
      replace n1 := Lib.hid n1
      replace n2 := Lib.hid n2
      replace n3 := Lib.hid n3
      replace hai := Lib.hid hai
      replace hsu := Lib.hid hsu
      replace hks := Lib.hid hks
      clear hown hb a2
      go_wp2_with fail
      go_loopw [11, 12, 13, 29] (fun v11 v12 v13 i wr => ∃ j : Nat, j ≤ RS.length ∧ i = .int .i64 j ∧ v11 = .int .i64 (a : Int) ∧ (∀ s : Nat, s < j → ¬ (p.dst (f : Int) (s : Int) = E - 1 ∧ lnk p (s : Int) (a : Int) = true)) ∧ Below wo.heap.size wo wr) (fun _ _ _ i _ => RS.length - (intOf i).toNat)
      case atStart => exact ⟨0, by omega, rfl, rfl, (fun s h => absurd h (by omega)), Below.refl _ _⟩
      case round =>
        obtain ⟨j, hj, rfl, rfl, hno, hb⟩ := hrel
        obtain ⟨wi, hwi⟩ : ∃ W, W = wr := ⟨_, rfl⟩
        subst hwi
        by_cases hjn : j < RS.length
        · have hjl : (j : Int) < (RS.length : Int) := by omega
          have hrj := hat.out j (by rw [← hRl.out]; exact hjl)
          obtain ⟨vj, hvj⟩ : ∃ v, p.dst (f : Int) (j : Int) = v := ⟨_, rfl⟩
          rw [hvj] at hrj
          obtain ⟨gS9, oS9, hAS9, hgS9, j1⟩ := Row.iat (RS9.out.below hb) hrj
          have hgg := Option.some.inj hAS9
          obtain rfl : gS = gS9 := by injection hgg
          obtain rfl : oS = oS9 := by injection hgg
          clear hgg hAS9
          have j2 := cellb hb hgS j0
          have hno2 := fun (h : ¬ (vj = E - 1 ∧ lnk p (j : Int) (a : Int) = true)) => (show ∀ s : Nat, s < j + 1 → ¬ (p.dst (f : Int) (s : Int) = E - 1 ∧ lnk p (s : Int) (a : Int) = true) from fun s hs => by
            by_cases e : s = j
            · subst e; rw [hvj]; exact h
            · exact hno s (by omega))
          have hnj : vj = E - 1 → (j : Int) ≠ (a : Int) := fun h q => by
            have := ha2.out
            rw [← q, hvj] at this
            omega
          have hyes : vj = E - 1 → lnk p (j : Int) (a : Int) = true → nrS p (f : Int) (a : Int) = (j : Int) := fun h1 h2 => by
            have m1 := n3.out (j : Int) h2 (by rw [hvj]; exact h1)
            have m2 := (hli.out _ _ n1.out).1
            refine Classical.byContradiction fun q => ?_
            have m3 := hno (nrS p (f : Int) (a : Int)).toNat (by omega)
            rw [show (((nrS p (f : Int) (a : Int)).toNat : Nat) : Int) = nrS p (f : Int) (a : Int) by omega] at m3
            exact m3 ⟨n2.out, n1.out⟩
          have hLK := Lib.hid (fun h => hLN.out wi (bt B1.out (bt b8.out hb)) (j : Int) (a : Int) (hnj h))
          obtain ⟨lk, hlk⟩ : ∃ v, lnk p (j : Int) (a : Int) = v := ⟨_, rfl⟩
          rw [hlk] at hno2 hyes hLK
          have bi := Lib.hid hb
          have XX := Lib.hid (X9.out.below hb)
          replace hno2 := Lib.hid hno2
          replace hyes := Lib.hid hyes
          replace hlk := Lib.hid hlk
          replace hvj := Lib.hid hvj
          replace hrj := Lib.hid hrj
          clear hb hno hnj
          by_cases h1 : vj = E - 1
          · have h1b : (vj == E - 1) = true := by simpa using h1
            have hcl := Lib.hid (hLK.out h1)
            replace h1 := Lib.hid h1
            have x0 := XX.out.c (i := 0) rfl
            have x1 := XX.out.c (i := 1) rfl
            have x2 := XX.out.c (i := 2) rfl
            have zz := XX.out.lt
            go_wp2_with fail
            go_at_call 62
            (with_reducible refine hcl.out.mono ?_)
            rintro en w3 ⟨rfl, hb3⟩
            have b3 := Lib.hid (bt bi.out hb3)
            clear hb3 x0 x1 x2 zz j1 j2 hgS9
            cases lk
            · have hno9 := Lib.hid (hno2.out (fun h => by cases h.2))
              go_wp2_with fail
              go_roundw
              case rel => exact ⟨j + 1, by omega, by go_num, rfl, hno9.out, b3.out⟩
              case measure => simp [intOf]; omega
            · have hjr := Lib.hid (hyes.out h1.out rfl)
              have hb9 : Below w1.heap.size w1 w3 := bt b8.out b3.out
              have own9 := Lib.hid (own8.out.below b3.out)
              have hbb9 := Lib.hid hb9
              have hz9 := Lib.hid (show bz ≤ w3.heap.size by rw [hbz.out]; exact hb9.size)
              clear hb9
              obtain ⟨w4, hw4⟩ : ∃ W, W = w3.alloc (.cells #[.int .i64 (j : Int)] 3) := ⟨_, rfl⟩
              have bb4 : Below w3.heap.size w3 w4 := by rw [hw4]; exact (Below.refl _ _).alloc (Nat.le_refl _) _
              have nx4 := Lib.hid (show Own w4 bz 3 1 (.slice (some ⟨w3.heap.size, 0, none⟩) 1 1) ([(j : Int)].map ic) by rw [hw4]; exact IntP.own_lit w3 #[.int .i64 (j : Int)] [(j : Int)] bz 1 hz9.out rfl rfl (by simp))
              have own4 := Lib.hid (own9.out.below bb4)
              have ro4 := Lib.hid (Row.own own4.out (by decide))
              have b4 := Lib.hid (bt hbb9.out bb4)
              have hz4 := Lib.hid (Nat.le_trans hz9.out bb4.size)
              have hn1 : Hid (([(j : Int)].map ic).length + (((pthTo p (f : Int) (t : Int) k).reverse).map ic).length ≤ 1000000) := Lib.hid (by rw [List.length_map, List.length_map, List.length_reverse, pthTo_len]; simp; omega)
              have hvl : Hid (k + 1 = (((pthTo p (f : Int) (t : Int) k).reverse).map ic).length) := Lib.hid (by rw [List.length_map, List.length_reverse, pthTo_len])
              have hnew := Lib.hid (show (pthTo p (f : Int) (t : Int) (k + 1)).reverse = [(j : Int)] ++ (pthTo p (f : Int) (t : Int) k).reverse by rw [hsu.out, hjr.out, List.reverse_append]; rfl)
              have hpk := Lib.hid (show pthK p (f : Int) (t : Int) (k + 1) = (j : Int) by rw [hks.out]; exact hjr.out)
              clear bb4
              go_upto_region 12 with fail
              rw [← hw4]
              clear hw4
              go_wp2_with (at_builtin; (refine wpList_append_sl rfl (.tmp 52) (.tmp 53) 43 rfl IntP.elI (by rfl) nx4.out (by rfl) hvl.out ro4.out.sl (IntP.whole _) ro4.out.nil hn1.out hz4.out ?_); intro v' w5 own5 grow5 _)
              have b5 : Below w1.heap.size w1 w5 := b4.out.grown grow5 b4.out.size (fun j hj => by rw [← hbz.out]; exact (nx4.out.lt j hj).1)
              have own6 := Lib.hid (show Own w5 bz 3 1 v' (((pthTo p (f : Int) (t : Int) (k + 1)).reverse).map ic) by rw [hnew.out, List.map_append]; exact own5)
              obtain ⟨A7, c7, hv7⟩ := own_form own6.out
              rw [List.length_reverse, pthTo_len] at hv7
              subst hv7
              clear own5 grow5
              go_roundw
              case rel => exact ⟨k + 1, by omega, by rw [hpk.out], own6.out, b5⟩
              case measure => simp [lnOf]; omega
          · have h1b : (vj == E - 1) = false := by simpa using h1
            have hno9 := Lib.hid (hno2.out (fun h => h1 h.1))
            replace h1 := Lib.hid h1
            go_wp2_with fail
            go_roundw
            case rel => exact ⟨j + 1, by omega, by go_num, rfl, hno9.out, bi.out⟩
            case measure => simp [intOf]; omega
        · exfalso
          have m2 := (hli.out _ _ n1.out).1
          have m3 := hno (nrS p (f : Int) (a : Int)).toNat (by have := hRl.out; omega)
          rw [show (((nrS p (f : Int) (a : Int)).toNat : Nat) : Int) = nrS p (f : Int) (a : Int) by omega] at m3
          exact m3 ⟨n2.out, n1.out⟩
    · obtain rfl : k = D := by omega
      have hE0 : ¬ (E > 0) := by omega
      have hE1 : ¬ (0 < E) := by omega
      have own8 := Lib.hid hown
      have b8 := Lib.hid hb
      clear hown hb
      go_wp2_with fail
      go_ret
      refine ⟨A3, c3, rfl, ?_, bt B1.out b8.out⟩
      have h := Row.own own8.out (by decide)
      exact h
end Go.Proofs.Ytgcmklliafcffaa.LanP
