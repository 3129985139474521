/-
  Contracts of footwayref17's leads, Next.
-/
import Derived.Test.YtgcmklliafcffaaFloodG
import Derived.BigRegion
namespace Go.Proofs.Ytgcmklliafcffaa.LanP
open Go.RowKit Go.Sort Go.Proofs.Ytgcmklliafcffaa.SliceP Go.Proofs.Ytgcmklliafcffaa.BoxP
open Go.Proofs.Ytgcmklliafcffaa.IntP (RowI SlI OwnI)
open Go.Proofs.Ytgcmklliafcffaa.BoolP (RowB SlB OwnB)
open Go.Proofs.Ytgcmklliafcffaa.MacP (arr_out Wrote wp_region_ends outM)
set_option linter.unusedVariables false
set_option maxRecDepth 100000
theorem cellb {w w' : World} {b o : Nat} {v : Value} (hb : Below w.heap.size w w') (hlt : b < w.heap.size) (h : w.cell? ⟨b, o, none⟩ = some v) : w'.cell? ⟨b, o, none⟩ = some v := (hb.cell (p := ⟨b, o, none⟩) hlt).trans h
def hitB (p : P) (y : List Bool) (s : Int) (j : Nat) : Bool := ((p.ports.getD j default).up && y.getD j false) && ((p.ports.getD j default).seg == s)
def hitsTo (p : P) (y : List Bool) (s : Int) (j : Nat) : Bool := (List.range j).any (hitB p y s)
theorem hitsTo_succ (p : P) (y : List Bool) (s : Int) (j : Nat) : hitsTo p y s (j + 1) = (hitsTo p y s j || hitB p y s j) := by unfold hitsTo; rw [List.range_succ, List.any_append]; simp
theorem joins_op (p : P) (y : List Bool) (s : Int) : joins (opP p y) s = hitsTo p y s p.ports.length := by unfold joins opP opTo hitsTo; rw [List.any_map]; rfl
theorem hits_at {p : P} {y : List Bool} {s : Int} {j n : Nat} (h : hitB p y s j = true) (hj : j < n) : hitsTo p y s n = true := by unfold hitsTo; rw [List.any_eq_true]; exact ⟨j, List.mem_range.2 hj, h⟩
theorem hit_is {p : P} {y : List Bool} {s : Int} {j : Nat} {x : Lk} {v : Bool} (hx : p.ports[j]? = some x) (hv : y[j]? = some v) : hitB p y s j = ((x.up && v) && (x.seg == s)) := by
  unfold hitB
  rw [List.getD_eq_getElem?_getD, hx, List.getD_eq_getElem?_getD, hv]; rfl
theorem no_succ {p : P} {y : List Bool} {s t : Int} {j k : Nat} (h : (hitB p y s j && hitsTo p y t k) = false) (hn : (hitB p y s j && hitB p y t k) = false) : (hitB p y s j && hitsTo p y t (k + 1)) = false := by
  rw [hitsTo_succ]
  cases h1 : hitB p y s j with
  | false => rfl
  | true => rw [h1] at h hn; simp only [Bool.true_and] at h hn ⊢; rw [h, hn]; rfl
theorem no_succ2 {p : P} {y : List Bool} {s t : Int} {j n : Nat} (h : (hitsTo p y s j && hitsTo p y t n) = false) (hn : (hitB p y s j && hitsTo p y t n) = false) : (hitsTo p y s (j + 1) && hitsTo p y t n) = false := by
  rw [hitsTo_succ]
  cases h1 : hitsTo p y t n with
  | false => rw [Bool.and_false]
  | true => rw [h1] at h hn; simp only [Bool.and_true] at h hn ⊢; rw [h, hn]; rfl
set_option maxHeartbeats 16000000 in
theorem t_leads {l : L} {A : Option Addr} {c : Nat} {B : Option Addr} {d : Nat} {w : World} {O : List (List Bool)} {C : Option Addr} {e : Nat} (hr : LanR w l A c B d) (hs : Small l) (hR : RowL bc w C O.length e O) (hw : rowsB l O = true) {b : Nat} (hb : b < l.plans.length) {s t : Int} (hne : s ≠ t) :
    Calls Try.prog 96 #[lv l A c B d, .slice C O.length e, .int .i64 b, .int .i64 s, .int .i64 t] w fun en w' => en = .returned (.bool (joins (opP (pl l b) (O.getD b [])) s && joins (opP (pl l b) (O.getD b [])) t)) ∧ Below w.heap.size w w' := by
  have hrl := rows_len hw
  obtain ⟨p, hp⟩ : ∃ p, pl l b = p := ⟨_, rfl⟩
  have hpg : l.plans[b]? = some p := by rw [← hp]; exact plan_get hb
  have hbO : b < O.length := by rw [hrl.1]; exact hb
  obtain ⟨y, hy⟩ : ∃ y, O[b]? = some y := ⟨_, List.getElem?_eq_getElem hbO⟩
  have hyy : O.getD b [] = y := by rw [List.getD_eq_getElem?_getD, hy]; rfl
  have hyl := hrl.2 b hb
  rw [hyy, hp] at hyl
  rw [hyy, hp]
  have hp10 := hs.ports p (List.mem_of_getElem? hpg)
  have hbl : (b : Int) < (l.plans.length : Int) := by omega
  have hbo : (b : Int) < (O.length : Int) := by omega
  obtain ⟨w0, hw0, X0, R0, B0⟩ := new3 w hr
  have O0 := Lib.hid (hR.below B0)
  obtain ⟨b5, o5, C6, c6, hCC, hb5, u0, ROW⟩ := O0.out.at_ hy
  obtain ⟨bP, oP, A6, c8, hAA, hbP, p0, p1, krow⟩ := RowP.at_ R0.plans hpg
  subst hAA; subst hCC
  have KR := Lib.hid krow
  have ROW0 := Lib.hid ROW
  have U0 := Lib.hid u0
  have HB5 := Lib.hid hb5
  have P1 := Lib.hid p1
  have HBP := Lib.hid hbP
  replace X0 := Lib.hid X0
  replace B0 := Lib.hid B0
  replace hrl := Lib.hid hrl
  replace hp := Lib.hid hp
  replace hpg := Lib.hid hpg
  replace hy := Lib.hid hy
  replace hyy := Lib.hid hyy
  replace hne := Lib.hid hne
  have hyl9 := Lib.hid hyl
  clear hr hR R0 u0 hb5 ROW krow hyl p0 p1 hbP
  go_enter Try.func96, Try.ntmps96
  go_upto_region 1 with fail
  rw [← hw0]
  clear hw0
  have x1 := X0.out.c (i := 1) rfl
  have zz := X0.out.lt
  have p1 := P1.out
  have zp := HBP.out
  go_wp2_with fail
  clear x1 zz p1 zp
  go_loopw [22] (fun i wr => ∃ j : Nat, j ≤ p.ports.length ∧ i = .int .i64 j ∧ (hitsTo p y s j && hitsTo p y t p.ports.length) = false ∧ Below w0.heap.size w0 wr) (fun i _ => p.ports.length - (intOf i).toNat)
  case atStart => exact ⟨0, by omega, rfl, rfl, Below.refl _ _⟩
  case round =>
    obtain ⟨j, hj, rfl, hnj, hb⟩ := hrel
    obtain ⟨wo, hwo⟩ : ∃ W, W = wr := ⟨_, rfl⟩
    subst hwo
    by_cases hjn : j < p.ports.length
    · have hjl : (j : Int) < (p.ports.length : Int) := by omega
      obtain ⟨x, hx⟩ : ∃ x, p.ports[j]? = some x := ⟨_, List.getElem?_eq_getElem hjn⟩
      obtain ⟨vj, hvj⟩ : ∃ v, y[j]? = some v := ⟨_, List.getElem?_eq_getElem (by have := hyl9.out; omega)⟩
      have hsj := Lib.hid (hit_is (s := s) hx hvj)
      obtain ⟨bK, oK, hA6, hbK, k0, k1, k2⟩ := (KR.out.below hb).kat hx
      subst hA6
      obtain ⟨b12, hb12⟩ : ∃ b, b = wo.heap.size := ⟨_, rfl⟩
      obtain ⟨w12, hw12⟩ : ∃ W, W = wo.alloc (.cells #[.int .i64 x.seg, .int .i64 x.cost, .bool x.up] 57) := ⟨_, rfl⟩
      have bb12 : Below wo.heap.size wo w12 := by rw [hw12]; exact (Below.refl _ _).alloc (Nat.le_refl _) _
      have X12 := Lib.hid (show Bx w12 b12 57 #[.int .i64 x.seg, .int .i64 x.cost, .bool x.up] by rw [hw12]; exact Bx.new _ _ _ hb12.symm)
      have B12 := Lib.hid (bt hb bb12)
      replace hnj := Lib.hid hnj
      replace hx := Lib.hid hx
      replace hvj := Lib.hid hvj
      clear hb bb12
      go_upto_region 4 with fail
      rw [← hw12, ← hb12]
      clear hw12 hb12 k0 k1 k2 hbK
      have x1 := (X0.out.below B12.out).c (i := 1) rfl
      have zz := (X0.out.below B12.out).lt
      have p1 := cellb B12.out HBP.out P1.out
      have zp := Nat.lt_of_lt_of_le HBP.out B12.out.size
      go_wp2_with fail
      clear x1 zz p1 zp
      go_loopw [34] (fun i wr => ∃ k : Nat, k ≤ p.ports.length ∧ i = .int .i64 k ∧ (hitB p y s j && hitsTo p y t k) = false ∧ Below w12.heap.size w12 wr) (fun i _ => p.ports.length - (intOf i).toNat)
      case atStart => exact ⟨0, by omega, rfl, by unfold hitsTo; simp, Below.refl _ _⟩
      case round =>
        obtain ⟨k, hk, rfl, hnk, hb⟩ := hrel
        obtain ⟨wi, hwi⟩ : ∃ W, W = wr := ⟨_, rfl⟩
        subst hwi
        by_cases hkn : k < p.ports.length
        · have hkl : (k : Int) < (p.ports.length : Int) := by omega
          obtain ⟨z, hz⟩ : ∃ x, p.ports[k]? = some x := ⟨_, List.getElem?_eq_getElem hkn⟩
          obtain ⟨vk, hvk⟩ : ∃ v, y[k]? = some v := ⟨_, List.getElem?_eq_getElem (by have := hyl9.out; omega)⟩
          have htk := Lib.hid (hit_is (s := t) hz hvk)
          have hbz := bt B12.out hb
          obtain ⟨bK9, oK9, hA6, hbK, k0, k1, k2⟩ := (KR.out.below hbz).kat hz
          have hgg := Option.some.inj hA6
          obtain rfl : bK = bK9 := by injection hgg
          obtain rfl : oK = oK9 := by injection hgg
          clear hgg hA6
          obtain ⟨b14, hb14⟩ : ∃ b, b = wi.heap.size := ⟨_, rfl⟩
          obtain ⟨w14, hw14⟩ : ∃ W, W = wi.alloc (.cells #[.int .i64 z.seg, .int .i64 z.cost, .bool z.up] 57) := ⟨_, rfl⟩
          have bb14 : Below wi.heap.size wi w14 := by rw [hw14]; exact (Below.refl _ _).alloc (Nat.le_refl _) _
          have X14 := Lib.hid (show Bx w14 b14 57 #[.int .i64 z.seg, .int .i64 z.cost, .bool z.up] by rw [hw14]; exact Bx.new _ _ _ hb14.symm)
          have bb := Lib.hid (bt hb bb14)
          have Bz := Lib.hid (bt B0.out (bt B12.out bb.out))
          replace hnk := Lib.hid hnk
          replace hz := Lib.hid hz
          replace hvk := Lib.hid hvk
          have hjn9 := Lib.hid hjn
          have hkn9 := Lib.hid hkn
          clear hb bb14 hbz
          go_upto_region 7 with fail
          rw [← hw14, ← hb14]
          clear hw14 hb14 k0 k1 k2 hbK
          have Bk := Lib.hid (bt B12.out bb.out)
          obtain ⟨bR, oR, hA5, hbR, r3⟩ := (ROW0.out.below Bk.out).bat hvj.out
          subst hA5
          obtain ⟨bR9, oR9, hA5, hbR9, r4⟩ := (ROW0.out.below Bk.out).bat hvk.out
          have hgg := Option.some.inj hA5
          obtain rfl : bR = bR9 := by injection hgg
          obtain rfl : oR = oR9 := by injection hgg
          clear hgg hA5
          have u0 := cellb Bk.out HB5.out U0.out
          have zu := Nat.lt_of_lt_of_le HB5.out Bk.out.size
          have e0 := (X12.out.below bb.out).c (i := 0) rfl
          have e2 := (X12.out.below bb.out).c (i := 2) rfl
          have ze := (X12.out.below bb.out).lt
          have g0 := X14.out.c (i := 0) rfl
          have g2 := X14.out.c (i := 2) rfl
          have zg := X14.out.lt
          have hyj : (j : Int) < (y.length : Int) := by have := hyl9.out; omega
          have hyk : (k : Int) < (y.length : Int) := by have := hyl9.out; omega
          obtain ⟨ux, hux⟩ : ∃ u, x.up = u := ⟨_, rfl⟩
          obtain ⟨uz, huz⟩ : ∃ u, z.up = u := ⟨_, rfl⟩
          have hsj9 := hsj.out
          have htk9 := htk.out
          rw [hux] at e2 hsj9
          rw [huz] at g2 htk9
          have hsj := Lib.hid hsj9
          have htk := Lib.hid htk9
          clear hsj9 htk9
          replace hux := Lib.hid hux
          replace huz := Lib.hid huz
          by_cases hjk : j = k
          · have hcc : ((j : Int) != (k : Int)) = false := by simp; omega
            have hno := Lib.hid (show (hitB p y s j && hitB p y t k) = false by
              rw [hjk]
              unfold hitB
              cases h1 : ((p.ports.getD k default).seg == s) with
              | false => simp
              | true =>
                have h1 := eq_of_beq h1
                have h2 : ((p.ports.getD k default).seg == t) = false := by rw [h1]; simpa using hne.out
                rw [h2]; simp)
            go_wp2_with fail
            go_roundw
            case rel => exact ⟨k + 1, by omega, by go_num, no_succ hnk.out hno.out, bb.out⟩
            case measure => simp [intOf]; omega
          · have hcc : ((j : Int) != (k : Int)) = true := by simp; omega
            replace hjk := Lib.hid hjk
            cases ux
            · have hno := Lib.hid (show (hitB p y s j && hitB p y t k) = false by rw [hsj.out, htk.out]; simp)
              go_wp2_with fail
              go_roundw
              case rel => exact ⟨k + 1, by omega, by go_num, no_succ hnk.out hno.out, bb.out⟩
              case measure => simp [intOf]; omega
            · cases uz
              · have hno := Lib.hid (show (hitB p y s j && hitB p y t k) = false by rw [hsj.out, htk.out]; simp)
                go_wp2_with fail
                go_roundw
                case rel => exact ⟨k + 1, by omega, by go_num, no_succ hnk.out hno.out, bb.out⟩
                case measure => simp [intOf]; omega
              · cases vj
                · have hno := Lib.hid (show (hitB p y s j && hitB p y t k) = false by rw [hsj.out, htk.out]; simp)
                  go_wp2_with fail
                  go_roundw
                  case rel => exact ⟨k + 1, by omega, by go_num, no_succ hnk.out hno.out, bb.out⟩
                  case measure => simp [intOf]; omega
                · cases vk
                  · have hno := Lib.hid (show (hitB p y s j && hitB p y t k) = false by rw [hsj.out, htk.out]; simp)
                    go_wp2_with fail
                    go_roundw
                    case rel => exact ⟨k + 1, by omega, by go_num, no_succ hnk.out hno.out, bb.out⟩
                    case measure => simp [intOf]; omega
                  · by_cases h1 : x.seg = s
                    · have h1b : (x.seg == s) = true := by simpa using h1
                      by_cases h2 : z.seg = t
                      · have h2b : (z.seg == t) = true := by simpa using h2
                        have hsj7 := Lib.hid (show hitB p y s j = true by rw [hsj.out, h1b]; rfl)
                        have htk7 := Lib.hid (show hitB p y t k = true by rw [htk.out, h2b]; rfl)
                        replace h1 := Lib.hid h1
                        replace h2 := Lib.hid h2
                        go_wp2_with fail
                        go_ret
                        refine ⟨?_, Bz.out⟩
                        rw [joins_op, joins_op, hits_at hsj7.out hjn9.out, hits_at htk7.out hkn9.out] <;> rfl
                      · have h2b : (z.seg == t) = false := by simpa using h2
                        have hno := Lib.hid (show (hitB p y s j && hitB p y t k) = false by rw [htk.out, h2b]; simp)
                        replace h1 := Lib.hid h1
                        replace h2 := Lib.hid h2
                        go_wp2_with fail
                        go_roundw
                        case rel => exact ⟨k + 1, by omega, by go_num, no_succ hnk.out hno.out, bb.out⟩
                        case measure => simp [intOf]; omega
                    · have h1b : (x.seg == s) = false := by simpa using h1
                      have hno := Lib.hid (show (hitB p y s j && hitB p y t k) = false by rw [hsj.out, h1b]; simp)
                      replace h1 := Lib.hid h1
                      go_wp2_with fail
                      go_roundw
                      case rel => exact ⟨k + 1, by omega, by go_num, no_succ hnk.out hno.out, bb.out⟩
                      case measure => simp [intOf]; omega
        · obtain rfl : k = p.ports.length := by omega
          have hge : ¬ ((p.ports.length : Int) < (p.ports.length : Int)) := by omega
          have B9 := Lib.hid (bt B12.out hb)
          have hnx := Lib.hid (no_succ2 hnj.out hnk)
          clear hb hnk
          go_wp2_with fail
          go_roundw
          case rel => exact ⟨j + 1, by omega, by go_num, hnx.out, B9.out⟩
          case measure => simp [intOf]; omega
    · obtain rfl : j = p.ports.length := by omega
      have B9 := Lib.hid (bt B0.out hb)
      have hnj9 := Lib.hid hnj
      clear hb hnj
      go_wp2_with fail
      go_ret
      exact ⟨by rw [joins_op, joins_op, hnj9.out] <;> rfl, B9.out⟩
def lnkTo (l : L) (O : List (List Bool)) (s t : Int) (k : Nat) : Bool := (List.range k).any fun b => joins (opP (pl l b) (O.getD b [])) s && joins (opP (pl l b) (O.getD b [])) t
theorem lnkTo_succ (l : L) (O : List (List Bool)) (s t : Int) (k : Nat) : lnkTo l O s t (k + 1) = (lnkTo l O s t k || (joins (opP (pl l k) (O.getD k [])) s && joins (opP (pl l k) (O.getD k [])) t)) := by unfold lnkTo; rw [List.range_succ, List.any_append]; simp
theorem lnk_op (l : L) (O : List (List Bool)) (s t : Int) : lnk (l.op O) s t = lnkTo l O s t l.plans.length := by unfold lnk L.op opsTo lnkTo; rw [List.any_map]; rfl
theorem lnk_hit {l : L} {O : List (List Bool)} {s t : Int} {k n : Nat} (h : (joins (opP (pl l k) (O.getD k [])) s && joins (opP (pl l k) (O.getD k [])) t) = true) (hk : k < n) : lnkTo l O s t n = true := by unfold lnkTo; rw [List.any_eq_true]; exact ⟨k, List.mem_range.2 hk, h⟩
set_option maxHeartbeats 16000000 in
theorem t_next {l : L} {A : Option Addr} {c : Nat} {B : Option Addr} {d : Nat} {w : World} {O : List (List Bool)} {C : Option Addr} {e : Nat} (hr : LanR w l A c B d) (hs : Small l) (hR : RowL bc w C O.length e O) (hw : rowsB l O = true) {s t : Int} (hne : s ≠ t) :
    Calls Try.prog 62 #[lv l A c B d, .slice C O.length e, .int .i64 s, .int .i64 t] w fun en w' => en = .returned (.bool (lnk (l.op O) s t)) ∧ Below w.heap.size w w' := by
  rw [lnk_op]
  have hn8 := hs.plans
  have H := Lib.hid hr
  have HR := Lib.hid hR
  have hLD := Lib.hid (fun (W : World) (hW : Below w.heap.size w W) (b : Nat) (hb : b < l.plans.length) => t_leads (s := s) (t := t) (hr.below hW) hs (hR.below hW) hw hb hne)
  obtain ⟨w0, hw0, X0, R0, B0⟩ := new3 w hr
  replace X0 := Lib.hid X0
  replace B0 := Lib.hid B0
  replace hne := Lib.hid hne
  replace hw := Lib.hid hw
  replace hs := Lib.hid hs
  clear hr hR R0
  go_enter Try.func62, Try.ntmps62
  go_upto_region 1 with fail
  rw [← hw0]
  clear hw0
  have x1 := X0.out.c (i := 1) rfl
  have zz := X0.out.lt
  go_wp2_with fail
  clear x1 zz
  go_loopw [13] (fun i wr => ∃ k : Nat, k ≤ l.plans.length ∧ i = .int .i64 k ∧ lnkTo l O s t k = false ∧ Below w0.heap.size w0 wr) (fun i _ => l.plans.length - (intOf i).toNat)
  case atStart => exact ⟨0, by omega, rfl, rfl, Below.refl _ _⟩
  case round =>
    obtain ⟨k, hk, rfl, hnk, hb⟩ := hrel
    obtain ⟨wo, hwo⟩ : ∃ W, W = wr := ⟨_, rfl⟩
    subst hwo
    by_cases hkn : k < l.plans.length
    · have hkl : (k : Int) < (l.plans.length : Int) := by omega
      have x0 := (X0.out.below hb).c (i := 0) rfl
      have x1 := (X0.out.below hb).c (i := 1) rfl
      have x2 := (X0.out.below hb).c (i := 2) rfl
      have zz := (X0.out.below hb).lt
      have hc := Lib.hid (hLD.out _ (bt B0.out hb) k hkn)
      have hsu := lnkTo_succ l O s t k
      have hhit := fun h => lnk_hit (l := l) (O := O) (s := s) (t := t) (k := k) h hkn
      obtain ⟨v, hv⟩ : ∃ v, (joins (opP (pl l k) (O.getD k [])) s && joins (opP (pl l k) (O.getD k [])) t) = v := ⟨_, rfl⟩
      rw [hv] at hsu hhit hc
      have hb9 := Lib.hid hb
      replace hv := Lib.hid hv
      replace hhit := Lib.hid hhit
      replace hsu := Lib.hid hsu
      replace hnk := Lib.hid hnk
      clear hb
      go_wp2_with fail
      go_at_call 96
      (with_reducible refine hc.out.mono ?_)
      rintro en w3 ⟨rfl, hb3⟩
      have B3 := Lib.hid (bt hb9.out hb3)
      clear hb3 x0 x1 x2 zz
      cases v
      · have hnx := Lib.hid (show lnkTo l O s t (k + 1) = false by rw [hsu.out, hnk.out]; rfl)
        go_wp2_with fail
        go_roundw
        case rel => exact ⟨k + 1, by omega, by go_num, hnx.out, B3.out⟩
        case measure => simp [intOf]; omega
      · have hres := Lib.hid (hhit.out rfl)
        go_wp2_with fail
        go_ret
        exact ⟨by rw [hres.out] <;> rfl, bt B0.out B3.out⟩
    · obtain rfl : k = l.plans.length := by omega
      have B9 := Lib.hid (bt B0.out hb)
      have hnk9 := Lib.hid hnk
      clear hb hnk
      go_wp2_with fail
      go_ret
      exact ⟨by rw [hnk9.out] <;> rfl, B9.out⟩
end Go.Proofs.Ytgcmklliafcffaa.LanP
