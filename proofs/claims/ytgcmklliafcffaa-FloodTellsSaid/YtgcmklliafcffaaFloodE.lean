/-
  Contracts of flood's check, opened, and of what they call of slices.
-/
import Derived.Test.YtgcmklliafcffaaFloodD
import Derived.Test.YtgcmklliafcffaaRowsL
import Derived.BigRegion
namespace Go.Proofs.Ytgcmklliafcffaa.LanP
open Go.RowKit Go.Sort Go.Proofs.Ytgcmklliafcffaa.SliceP Go.Proofs.Ytgcmklliafcffaa.BoxP
open Go.Proofs.Ytgcmklliafcffaa.IntP (RowI SlI OwnI)
open Go.Proofs.Ytgcmklliafcffaa.BoolP (RowB SlB OwnB)
open Go.Proofs.Ytgcmklliafcffaa.MacP (arr_out Wrote wp_region_ends outM)
set_option linter.unusedVariables false
set_option maxRecDepth 100000
/- A function that is asked of ints. -/
def Asks (g : Nat) (caps : Array Value) (D : Int → Prop) (p : Int → Bool) (w : World) : Prop := Enters g ∧ ∀ x W, D x → Below w.heap.size w W → Calls Try.prog g (#[.int .i64 x] ++ caps) W fun e W' => e = .returned (.bool (p x)) ∧ Below W.heap.size W W'
def plB (l : List Int) (p : Int → Bool) : Int := if l.any p = true then (l.findIdx p : Nat) else -1
theorem anyF_more {l : List Int} {p : Int → Bool} {k : Nat} {x : Int} (h : (l.take k).any p = false) (hx : l[k]? = some x) (hn : p x = false) : (l.take (k + 1)).any p = false := by
  rw [List.take_add_one, hx, List.any_append, h]; simp [hn]
theorem anyF_hit {l : List Int} {p : Int → Bool} {k : Nat} {x : Int} (hx : l[k]? = some x) (hn : p x = true) : l.any p = true := List.any_eq_true.2 ⟨x, List.mem_of_getElem? hx, hn⟩
set_option maxHeartbeats 2000000 in
theorem o_index_f {A : Option Addr} {c : Nat} {l : List Int} {g : Nat} {caps : Array Value} {D : Int → Prop} {p : Int → Bool} {w : World} (hl : l.length ≤ 1000) (h : Row ic 1 w A l.length c l) (hg : Asks g caps D p w) (hD : ∀ x ∈ l, D x) {b : Bool} (hb0 : l.any p = b) :
    Calls Try.prog 94 #[.slice A l.length c, fnV g caps] w fun e w' => ∃ i : Int, e = .returned (.int .i64 i) ∧ decide (0 ≤ i) = b ∧ Below w.heap.size w w' := by
  have H := Lib.hid h
  have HG := Lib.hid hg.2
  have eg := hg.1
  unfold Enters at eg
  replace hb0 := Lib.hid hb0
  have hD9 := Lib.hid hD
  clear h hg hD
  go_enter Try.func94, Try.ntmps94
  go_wp2_with fail
  go_loopw [8] (fun i wr => ∃ k : Nat, k ≤ l.length ∧ i = .int .i64 k ∧ (l.take k).any p = false ∧ Below w.heap.size w wr) (fun i _ => l.length - (intOf i).toNat)
  case atStart => exact ⟨0, by omega, rfl, rfl, Below.refl _ _⟩
  case round =>
    obtain ⟨k, hk, rfl, hno, hb⟩ := hrel
    replace hno := Lib.hid hno
    by_cases hlk : k < l.length
    · have hkl : (k : Int) < (l.length : Int) := by omega
      obtain ⟨x, hx⟩ : ∃ x, l[k]? = some x := ⟨_, List.getElem?_eq_getElem hlk⟩
      obtain ⟨bS, oS, hA, hbS, x0⟩ := Row.iat (H.out.below hb) hx
      have hmx := H.out.mx
      have hcp := H.out.cap
      subst hA
      have hc := Lib.hid (HG.out x wr (hD9.out x (List.mem_of_getElem? hx)) hb)
      replace hb := Lib.hid hb
      replace hx := Lib.hid hx
      cases hh : p x
      all_goals
        replace hh := Lib.hid hh
        go_wp2_with fail
        go_at_fn g
        (with_reducible refine hc.out.mono ?_)
        rintro e w1 ⟨rfl, hb1⟩
        rw [hh.out]
        have B1 := Lib.hid (bt hb.out hb1)
        clear hb1 x0 hbS
        go_wp2_with fail
      · go_roundw
        case rel => exact ⟨k + 1, by omega, by go_num, anyF_more hno.out hx.out hh.out, B1.out⟩
        case measure => simp [intOf]; omega
      · go_ret
        exact ⟨k, rfl, by rw [← hb0.out, anyF_hit hx.out hh.out]; simp, B1.out⟩
    · obtain rfl : k = l.length := by omega
      have hno2 := hno.out
      rw [List.take_length, hb0.out] at hno2
      replace hno2 := Lib.hid hno2
      replace hb := Lib.hid hb
      go_wp2_with fail
      go_ret
      exact ⟨-1, rfl, by rw [hno2.out]; rfl, hb.out⟩
set_option maxHeartbeats 2000000 in
theorem o_has_f {A : Option Addr} {c : Nat} {l : List Int} {g : Nat} {caps : Array Value} {D : Int → Prop} {p : Int → Bool} {w : World} (hl : l.length ≤ 1000) (h : Row ic 1 w A l.length c l) (hg : Asks g caps D p w) (hD : ∀ x ∈ l, D x) {b : Bool} (hb0 : l.any p = b) :
    Calls Try.prog 59 #[.slice A l.length c, fnV g caps] w fun e w' => e = .returned (.bool b) ∧ Below w.heap.size w w' := by
  have hc := Lib.hid (o_index_f hl h hg hD hb0)
  clear h hg hD
  go_enter Try.func59, Try.ntmps59
  go_wp2_with fail
  go_at_call 94
  (with_reducible refine hc.out.mono ?_)
  rintro e w1 ⟨i, rfl, hi, hb1⟩
  replace hi := Lib.hid hi
  go_wp2_with fail
  go_ret
  exact ⟨by rw [← hi.out]; rfl, hb1⟩
set_option maxHeartbeats 1000000 in
theorem o_isrow (i : Int) (A : Option Addr) (n c : Nat) (C : Option Addr) (m e : Nat) (hn : n ≤ 1000) (hm : m ≤ 1000) (w : World) :
    Calls Try.prog 85 #[.agg #[.int .i64 i, .slice A n c], .slice C m e] w fun e w' => e = .returned (.bool (decide (n = m))) ∧ Below w.heap.size w w' := by
  have hd : ((n : Int) == (m : Int)) = decide (n = m) := by
    by_cases h : n = m
    · subst h; simp
    · rw [decide_eq_false h]; simpa using (show ¬ (n : Int) = (m : Int) by omega)
  obtain ⟨w0, hw0⟩ : ∃ W, W = w.alloc (.cells #[.int .i64 i, .slice A n c] 60) := ⟨_, rfl⟩
  have B0 := Lib.hid (show Below w.heap.size w w0 by rw [hw0]; exact (Below.refl _ _).alloc (Nat.le_refl _) _)
  have X0 := Lib.hid (show Bx w0 w.heap.size 60 #[.int .i64 i, .slice A n c] by rw [hw0]; exact Bx.new _ _ _ rfl)
  replace hd := Lib.hid hd
  go_enter Try.func85, Try.ntmps85
  go_upto_region 1 with fail
  rw [← hw0]
  clear hw0
  have x1 := X0.out.c (i := 1) rfl
  have zz := X0.out.lt
  go_wp2_with fail
  go_ret
  exact ⟨by rw [← hd.out]; rfl, B0.out⟩
def rowsTo (l : L) (O : List (List Bool)) (k : Nat) : Bool := (List.range k).all fun b => decide ((pl l b).ports.length = (O.getD b []).length)
def rowsB (l : L) (O : List (List Bool)) : Bool := decide (l.plans.length = O.length) && rowsTo l O l.plans.length
theorem rowsTo_succ (l : L) (O : List (List Bool)) (k : Nat) : rowsTo l O (k + 1) = (rowsTo l O k && decide ((pl l k).ports.length = (O.getD k []).length)) := by unfold rowsTo; rw [List.range_succ, List.all_append]; simp
theorem rowsTo_mono {l : L} {O : List (List Bool)} {k m : Nat} (h : rowsTo l O k = true) (hm : m ≤ k) : rowsTo l O m = true := by
  unfold rowsTo at *
  rw [List.all_eq_true] at *
  exact fun x hx => h x (List.mem_range.2 (by have := List.mem_range.1 hx; omega))
theorem rowsTo_no {l : L} {O : List (List Bool)} {k m : Nat} (h : rowsTo l O m = false) (hm : m ≤ k) : rowsTo l O k = false := by
  cases h2 : rowsTo l O k with
  | false => rfl
  | true => rw [rowsTo_mono h2 hm] at h; cases h
abbrev rowF : Value := fnV 85 #[]
set_option maxHeartbeats 4000000 in
theorem o_eqf {l : L} {O : List (List Bool)} {A : Option Addr} {c : Nat} {C : Option Addr} {e : Nat} {w : World} (hr : RowP w A l.plans.length c l.plans) (hR : RowL bc w C O.length e O) (hs : Small l) (hO : O.length ≤ 1000) (hO2 : ∀ r ∈ O, r.length ≤ 1000) {b : Bool} (hb : rowsB l O = b) :
    Calls Try.prog 84 #[.slice A l.plans.length c, .slice C O.length e, rowF] w fun e w' => e = .returned (.bool b) ∧ Below w.heap.size w w' := by
  have H := Lib.hid hr
  have HR := Lib.hid hR
  have hpn := Lib.hid hs.plans
  have hpm := Lib.hid hs.ports
  have hpn8 := hs.plans
  replace hO2 := Lib.hid hO2
  clear hr hR
  by_cases hl : l.plans.length = O.length
  · have hbn : ((l.plans.length : Int) != (O.length : Int)) = false := by simp; omega
    have hb2 : rowsTo l O l.plans.length = b := by unfold rowsB at hb; rw [decide_eq_true hl] at hb; simpa using hb
    replace hb2 := Lib.hid hb2
    replace hl := Lib.hid hl
    clear hb
    go_enter Try.func84, Try.ntmps84
    go_wp2_with fail
    go_loopw [7, 8, 9, 17] (fun a1 a2 a3 i wr => ∃ k : Nat, k ≤ l.plans.length ∧ i = .int .i64 k ∧ rowsTo l O k = true ∧ Below w.heap.size w wr) (fun _ _ _ i _ => l.plans.length - (intOf i).toNat)
    case atStart => exact ⟨0, by omega, rfl, rfl, Below.refl _ _⟩
    case round =>
      obtain ⟨k, hk, rfl, hyes, hb⟩ := hrel
      replace hyes := Lib.hid hyes
      by_cases hkn : k < l.plans.length
      · have hkl : (k : Int) < (l.plans.length : Int) := by omega
        have hko : k < O.length := by have := hl.out; omega
        have hkl2 : (k : Int) < (O.length : Int) := by omega
        obtain ⟨x, hx⟩ : ∃ x, l.plans[k]? = some x := ⟨_, List.getElem?_eq_getElem hkn⟩
        obtain ⟨y, hy⟩ : ∃ y, O[k]? = some y := ⟨_, List.getElem?_eq_getElem hko⟩
        obtain ⟨bS, oS, A8, c8, hAS, hbS, q0, q1, hrow⟩ := RowP.at_ (H.out.below hb) hx
        subst hAS
        have hx1 := hpm.out x (List.mem_of_getElem? hx)
        have hy1 := hO2.out y (List.mem_of_getElem? hy)
        have hsu := Lib.hid (show rowsTo l O (k + 1) = (rowsTo l O k && decide (x.ports.length = y.length)) by
          rw [rowsTo_succ]; congr 3
          · unfold pl; rw [List.getD_eq_getElem?_getD, hx]; rfl
          · rw [List.getD_eq_getElem?_getD, hy]; rfl)
        obtain ⟨w8, hw8⟩ : ∃ W, W = wr.alloc (.cells #[.int .i64 x.id, .slice A8 x.ports.length c8] 60) := ⟨_, rfl⟩
        have bb8 : Below wr.heap.size wr w8 := by rw [hw8]; exact (Below.refl _ _).alloc (Nat.le_refl _) _
        have b8 := Lib.hid (bt hb bb8)
        have X8 := Lib.hid (show Bx w8 wr.heap.size 60 #[.int .i64 x.id, .slice A8 x.ports.length c8] by rw [hw8]; exact Bx.new _ _ _ rfl)
        obtain ⟨b5, o5, A9, c9, hCC, hb5, u0, ROW⟩ := (HR.out.below b8.out).at_ hy
        subst hCC
        clear ROW hrow hb bb8
        have hic := Lib.hid (fun W => o_isrow x.id A8 x.ports.length c8 A9 y.length c9 (by omega) hy1 W)
        replace hx := Lib.hid hx
        replace hy := Lib.hid hy
        go_upto_region 6 with fail
        rw [← hw8]
        clear hw8 q0 q1 hbS
        have o0 := X8.out.c (i := 0) rfl
        have o1 := X8.out.c (i := 1) rfl
        have zz := X8.out.lt
        cases hd : decide (x.ports.length = y.length)
        all_goals
          rw [hd] at hic hsu
          replace hd := Lib.hid hd
          go_wp2_with fail
          go_at_call 85
          (with_reducible refine (hic.out _).mono ?_)
          rintro e w9 ⟨rfl, hb9⟩
          have b9 := Lib.hid (bt b8.out hb9)
          clear hb9 o0 o1 zz u0 hb5
          go_wp2_with fail
        · go_ret
          have hfin := rowsTo_no (k := l.plans.length) (by rw [hsu.out]; simp : rowsTo l O (k + 1) = false) hkn
          rw [hb2.out] at hfin
          exact ⟨by rw [hfin]; rfl, b9.out⟩
        · go_roundw
          case rel => exact ⟨k + 1, by omega, by go_num, by rw [hsu.out, hyes.out]; rfl, b9.out⟩
          case measure => simp [intOf]; omega
      · obtain rfl : k = l.plans.length := by omega
        have hfin := hyes.out
        rw [hb2.out] at hfin
        replace hfin := Lib.hid hfin
        replace hb := Lib.hid hb
        go_wp2_with fail
        go_ret
        exact ⟨by rw [hfin.out]; rfl, hb.out⟩
  · have hbn : ((l.plans.length : Int) != (O.length : Int)) = true := by simp; omega
    have hb2 : false = b := by unfold rowsB at hb; rw [decide_eq_false hl] at hb; simpa using hb
    subst hb2
    go_enter Try.func84, Try.ntmps84
    go_wp2_with fail
    go_ret
    exact ⟨rfl, Below.refl _ _⟩
def outB (l : L) (x : Int) : Bool := decide (x < 0) || decide (l.segs ≤ x)
def whyO (l : L) (O : List (List Bool)) (ss : List Int) : Int := if (l.ok && rowsB l O) = true then (if ss.any (outB l) = true then 3 else 0) else 1
set_option maxHeartbeats 1000000 in
theorem chk_asks {l : L} {g : Nat} {w : World} (h : w.cell? ⟨g, 0, none⟩ = some (.int .i64 l.segs)) (hlt : g < w.heap.size) : Asks 83 #[.pointer (some ⟨g, 0, none⟩)] (fun _ => True) (outB l) w := by
  refine ⟨enters_of Try.func83 (by kernel_rfl) rfl, fun x W _ hb => ?_⟩
  have h2 := (hb.cell (p := ⟨g, 0, none⟩) hlt).trans h
  have h3 := Nat.lt_of_lt_of_le hlt hb.size
  unfold outB
  by_cases hx : x < 0
  · have hd : decide (x < 0) = true := decide_eq_true hx
    go_enter Try.func83, Try.ntmps83
    go_wp2_with fail
    go_ret
    exact ⟨by simp, Below.refl _ _⟩
  · have hd : decide (x < 0) = false := decide_eq_false hx
    by_cases hy : l.segs ≤ x
    · have hd : decide (l.segs ≤ x) = true := decide_eq_true hy
      go_enter Try.func83, Try.ntmps83
      go_wp2_with fail
      go_ret
      exact ⟨by simp, Below.refl _ _⟩
    · have hd : decide (l.segs ≤ x) = false := decide_eq_false hy
      go_enter Try.func83, Try.ntmps83
      go_wp2_with fail
      go_ret
      exact ⟨by simp, Below.refl _ _⟩
set_option maxHeartbeats 4000000 in
theorem o_check17 {l : L} {O : List (List Bool)} {A : Option Addr} {c : Nat} {B : Option Addr} {d : Nat} {C : Option Addr} {e : Nat} {w : World} {S : Option Addr} {sc : Nat} {ss : List Int} (hr : LanR w l A c B d) (hs : Small l) (hR : RowL bc w C O.length e O) (hO : O.length ≤ 1000) (hO2 : ∀ r ∈ O, r.length ≤ 1000) (hS : Row ic 1 w S ss.length sc ss) (hsl : ss.length ≤ 1000) {r : Int} (he : whyO l O ss = r) :
    Calls Try.prog 51 #[lv l A c B d, .slice C O.length e, .slice S ss.length sc] w fun e w' => e = .returned (.int .i64 r) ∧ Below w.heap.size w w' := by
  obtain ⟨w0, hw0, X0, R0, B0⟩ := new3 w hr
  have hright := Lib.hid (fun b hb W (hW : Below w0.heap.size w0 W) => o_right (R0.below hW) hs (b := b) hb)
  have heqf := Lib.hid (fun b hb W (hW : Below w0.heap.size w0 W) => o_eqf (R0.below hW).plans ((hR.below B0).below hW) hs hO hO2 (b := b) hb)
  have hhas := Lib.hid (fun b hb W (hW : Below w0.heap.size w0 W) => o_has_f hsl ((hS.below B0).below hW) (chk_asks (l := l) ((X0.below hW).c (i := 0) rfl) (X0.below hW).lt) (fun _ _ => trivial) (b := b) hb)
  replace X0 := Lib.hid X0
  replace B0 := Lib.hid B0
  unfold whyO at he
  replace he := Lib.hid he
  clear hr hR hS R0 hO2
  go_enter Try.func51, Try.ntmps51
  go_upto_region 1 with fail
  rw [← hw0]
  clear hw0
  have x0 := X0.out.c (i := 0) rfl
  have x1 := X0.out.c (i := 1) rfl
  have x2 := X0.out.c (i := 2) rfl
  have zz := X0.out.lt
  go_wp2_with fail
  cases hok : l.ok
  · have hc := Lib.hid (hright.out false hok w0 (Below.refl _ _))
    rw [hok, Bool.false_and, if_neg (by simp)] at he
    replace he := he.out
    subst he
    replace hok := Lib.hid hok
    go_at_call 39
    (with_reducible refine hc.out.mono ?_)
    rintro e w1 ⟨rfl, hb1⟩
    have B1 := Lib.hid (bt B0.out hb1)
    clear hb1 x0 x1 x2 zz
    go_wp2_with fail
    go_ret
    exact ⟨rfl, B1.out⟩
  · have hc := Lib.hid (hright.out true hok w0 (Below.refl _ _))
    rw [hok, Bool.true_and] at he
    replace hok := Lib.hid hok
    go_at_call 39
    (with_reducible refine hc.out.mono ?_)
    rintro e w1 ⟨rfl, hb1⟩
    have X1 := Lib.hid (X0.out.below hb1)
    have b1 := Lib.hid hb1
    clear hb1 x0 x1 x2 zz X0 hc hright
    have x1 := X1.out.c (i := 1) rfl
    have zz := X1.out.lt
    cases hrw : rowsB l O
    all_goals
      have hc := Lib.hid (heqf.out _ hrw w1 b1.out)
      rw [hrw] at he
      replace hrw := Lib.hid hrw
      go_wp2_with fail
      go_at_call 84
      (with_reducible refine hc.out.mono ?_)
      rintro e w2 ⟨rfl, hb2⟩
      have b2 := Lib.hid (bt b1.out hb2)
      clear hb2 x1 zz hc
    · rw [if_neg (by simp)] at he
      replace he := he.out
      subst he
      have B2 := Lib.hid (bt B0.out b2.out)
      go_wp2_with fail
      go_ret
      exact ⟨rfl, B2.out⟩
    · first | rw [if_pos rfl] at he | rw [if_pos trivial] at he
      cases ha : ss.any (outB l)
      all_goals
        have hc := Lib.hid (hhas.out _ ha w2 b2.out)
        rw [ha] at he
        replace ha := Lib.hid ha
        go_wp2_with fail
        go_at_call 59
        (with_reducible refine hc.out.mono ?_)
        rintro e w3 ⟨rfl, hb3⟩
        have B3 := Lib.hid (bt B0.out (bt b2.out hb3))
        clear hb3 hc
      · first | rw [if_neg (by simp)] at he | rw [if_neg not_false] at he
        replace he := he.out
        subst he
        go_wp2_with fail
        go_ret
        exact ⟨rfl, B3.out⟩
      · first | rw [if_pos rfl] at he | rw [if_pos trivial] at he
        replace he := he.out
        subst he
        go_wp2_with fail
        go_ret
        exact ⟨rfl, B3.out⟩
end Go.Proofs.Ytgcmklliafcffaa.LanP
