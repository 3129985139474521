/-
  Contracts of footwayref08: Sweep, Flush.
-/
import Derived.Test.YtnghilcjecjljaaFdbRG
namespace Go.Proofs.Ytnghilcjecjljaa.FdbP
open Go.RowKit Go.Sort Go.Proofs.Ytnghilcjecjljaa.SliceP Go.Proofs.Ytnghilcjecjljaa.MacP
set_option linter.unusedVariables false
set_option maxRecDepth 100000

theorem OffS.set {S : Nat → Prop} {q : Nat} (hq : S q) (w : World) (i : Nat) (v : Value) : OffS S w (w.setCell ⟨q, i, none⟩ v) := by
  refine ⟨by simp, fun p hp hs => ?_⟩
  rw [World.cell?_setCell_other _ _ _ _ (by rintro rfl; exact hs hq)]
theorem RowS.of {S T : Nat → Prop} {w : World} {A : Option Addr} {n c : Nat} {l : List E} (h : RowS S w A n c l) (hT : ∀ b, b < w.heap.size → T b → S b) : RowS T w A n c l := ⟨h.row, fun hl b o e ht => h.off hl b o e (hT b (h.row.lt hl b o e) ht)⟩
def flushR (port : Int) (x : E) : Bool := !x.st && !(decide (0 ≤ port) && x.port != port)
/-- The rows that were laid so far. -/
def RowsOf (B : Nat) (v : Value) (wr : World) (rs : List Sla) (bs : List (List E)) : Prop := ∀ (j : Nat) (r : Sla) (xs : List E), rs[j]? = some r → bs[j]? = some xs → RowS (fun b => some b = v.ownBlock ∨ b < B) wr r.1 r.2.1 r.2.2 xs
theorem RowsOf.below {B : Nat} {v : Value} {w w' : World} {rs : List Sla} {bs : List (List E)} (h : RowsOf B v w rs bs) (hb : Below w.heap.size w w') : RowsOf B v w' rs bs := fun j r xs h1 h2 => (h j r xs h1 h2).below hb
/-- One more row, behind an append. -/
theorem RowsOf.snoc {B : Nat} {v v' : Value} {w w' : World} {rs : List Sla} {bs : List (List E)} {A : Option Addr} {n c : Nat} {xs : List E} (h : RowsOf B v w rs bs) (hg : w.grownBy w' v.ownBlock) (hv : v'.ownBlock = v.ownBlock ∨ v'.ownBlock = some w.heap.size)
    (hr : RowS (fun b => some b = v.ownBlock ∨ b < B) w A n c xs) (hk : bs[rs.length]? = some xs) (hB : B ≤ w.heap.size) : RowsOf B v' w' (rs ++ [⟨A, n, c⟩]) bs := by
  have hO : OffS (fun b => some b = v.ownBlock ∨ b < B) w w' := ⟨hg.size, fun p hp hs => by
    obtain ⟨pb, po, sp⟩ := p
    have := hg.block pb hp (fun e => hs (Or.inl e))
    unfold World.cell?
    rw [this]⟩
  have step : ∀ {A : Option Addr} {n c : Nat} {ys : List E}, RowS (fun b => some b = v.ownBlock ∨ b < B) w A n c ys → RowS (fun b => some b = v'.ownBlock ∨ b < B) w' A n c ys := fun {A n c ys} hh => by
    have h1 := hh.keep hO
    refine ⟨h1.row, fun hl b o e hs => ?_⟩
    have hlt := hh.row.lt hl b o e
    rcases hs with hs | hs
    · rcases hv with hv | hv
      · exact hh.off hl b o e (Or.inl (hs.trans hv))
      · rw [hv] at hs
        have := Option.some.inj hs
        omega
    · exact hh.off hl b o e (Or.inr hs)
  intro j r ys hj hys
  by_cases hjk : j < rs.length
  · rw [List.getElem?_append_left hjk] at hj
    exact step (h j r ys hj hys)
  · rw [List.getElem?_append_right (by omega)] at hj
    have hj0 : j - rs.length = 0 := by
      have := (List.getElem?_eq_some_iff.1 hj).1
      simp at this; omega
    rw [hj0] at hj
    obtain rfl : (⟨A, n, c⟩ : Sla) = r := by simpa using hj
    obtain rfl : j = rs.length := by omega
    rw [hk] at hys
    obtain rfl := Option.some.inj hys
    exact step hr
set_option maxHeartbeats 32000000 in
theorem r_sweep {A : Option Addr} {n c : Nat} {bs : List (List E)} (s ag now : Int) {w : World} (ht : TabS w A n c bs) (hs : Small bs) (hbl : ∀ l ∈ bs, l.length ≤ 100000) :
    Calls Try.prog 27 #[tbv (.slice A n c) s ag, .int .i64 now] w (RetT w (bs.map (keepL (oldW ag now))) s ag) := by
  obtain rfl := ht.len
  have hs1 := hs.1
  obtain ⟨w0, hw0⟩ : ∃ w0, w0 = (w.alloc (tObj (.slice A bs.length c) s ag)).alloc (tObj (.slice none 0 0) 0 0) := ⟨_, rfl⟩
  have B0 := Lib.hid (show Below w.heap.size w w0 by rw [hw0]; exact ((Below.refl _ _).alloc (Nat.le_refl _) _).alloc (by simp) _)
  have Y := Lib.hid (show Bx w0 w.heap.size TT #[.slice A bs.length c, .int .i64 s, .int .i64 ag] by rw [hw0]; exact (Bx.new w _ _ rfl).alloc _)
  obtain ⟨q, hq⟩ : ∃ q, q = w.heap.size + 1 := ⟨_, rfl⟩
  have X := Lib.hid (show Bx w0 q TT #[.slice none 0 0, .int .i64 0, .int .i64 0] by rw [hw0, hq]; exact Bx.new _ _ _ (by simp))
  obtain ⟨wA, hwA⟩ : ∃ wA, wA = w0.alloc (.cells #[] 55) := ⟨_, rfl⟩
  have BA := Lib.hid (show Below w0.heap.size w0 wA by rw [hwA]; exact (Below.refl _ _).alloc (Nat.le_refl _) _)
  have O1 := Lib.hid (show OwnR wA w0.heap.size (.slice (some ⟨w0.heap.size, 0, none⟩) 0 0) [] by rw [hwA]; exact own_litR w0 #[] [] w0.heap.size 0 (Nat.le_refl _) rfl rfl (by simp))
  have e2 := Lib.hid (show w.heap.size + 1 + 1 = w0.heap.size by rw [hw0]; simp)
  have e1 := Lib.hid hq
  have hqw := Lib.hid (show w.heap.size ≤ q by omega)
  have hqw0 := Lib.hid X.out.lt
  have hyw0 := Lib.hid Y.out.lt
  have H := Lib.hid ht
  have HB := Lib.hid hbl
  have YA := Y.out.below BA.out
  obtain ⟨y0, y1, y2⟩ := Bx.four' YA
  clear ht hs hbl YA hq
  go_enter Try.func27, Try.ntmps27
  go_wp2_with fail
  rw [e2.out, ← e1.out, ← hw0, ← hwA]
  clear hw0 hwA y0 y1 y2
  go_loopw [5, 15] (fun v0 i wr => ∃ (k : Nat) (rs : List Sla) (v : Value), v = v0 ∧ k ≤ bs.length ∧ rs.length = k ∧ i = .int .i64 k ∧ OwnR wr w0.heap.size v rs ∧ RowsOf w0.heap.size v wr rs (bs.map (keepL (oldW ag now))) ∧ Below w0.heap.size w0 wr) (fun _ i _ => bs.length - (intOf i).toNat)
  case atStart => exact ⟨0, [], _, rfl, by omega, rfl, rfl, O1.out, (fun j r xs h => by simp at h), BA.out⟩
  case round =>
    clear O1 BA
    obtain ⟨k, rs, v, rfl, hk, hrs, rfl, hown, hrows, hb⟩ := hrel
    obtain ⟨wo, rfl⟩ : ∃ y, y = wr := ⟨wr, rfl⟩
    have hbs := hb.size
    replace hown := Lib.hid hown
    replace hrows := Lib.hid hrows
    by_cases hlk : k < bs.length
    · obtain ⟨l, hx⟩ : ∃ xs, bs[k]? = some xs := ⟨_, List.getElem?_eq_getElem hlk⟩
      have hll := HB.out l (List.mem_of_getElem? hx)
      have hbb := B0.out.trans (hb.mono B0.out.size)
      obtain ⟨b, o, r, rfl, hbw, q0, hrow⟩ := H.out.row hx
      replace q0 := (hbb.cell (p := ⟨b, _, none⟩) hbw).trans q0
      have hbw2 : b < wo.heap.size := Nat.lt_of_lt_of_le hbw hbb.size
      obtain ⟨r1, r2, r3⟩ := r
      simp only at q0 hrow
      obtain rfl := hrow.len
      obtain ⟨w1, hw1⟩ : ∃ w1, w1 = wo.alloc (.cells #[] 57) := ⟨_, rfl⟩
      have B1 := Lib.hid (show Below wo.heap.size wo w1 by rw [hw1]; exact (Below.refl _ _).alloc (Nat.le_refl _) _)
      have M0 := Lib.hid (show OwnE w1 wo.heap.size (.slice (some ⟨wo.heap.size, 0, none⟩) 0 0) [] by rw [hw1]; exact own_litE wo #[] [] wo.heap.size 0 (Nat.le_refl _) rfl rfl (by simp))
      have HR := Lib.hid (hrow.below hbb)
      have hkk : (bs.map (keepL (oldW ag now)))[k]? = some (keepL (oldW ag now) l) := by rw [List.getElem?_map, hx]; rfl
      replace hkk := Lib.hid hkk
      replace hb := Lib.hid hb
      replace hbs := Lib.hid hbs
      clear hbb hrow hbw hx
      go_wp2_with fail
      rw [← hw1]
      clear hw1 q0 hbw2
      go_loopw [8, 22] (fun mv i wr => ∃ i' : Nat, i' ≤ l.length ∧ i = .int .i64 i' ∧ OwnE wr wo.heap.size mv (keepL (oldW ag now) (l.take i')) ∧ Below wo.heap.size wo wr) (fun _ i _ => l.length - (intOf i).toNat)
      case atStart => exact ⟨0, by omega, rfl, M0.out, B1.out⟩
      case round =>
        clear M0 B1
        obtain ⟨i, hi, rfl, hm, hb2⟩ := hrel
        have hs2 := hb2.size
        replace hm := Lib.hid hm
        by_cases hil : i < l.length
        · obtain ⟨x, hxi⟩ : ∃ x, l[i]? = some x := ⟨_, List.getElem?_eq_getElem hil⟩
          obtain ⟨b', o', rfl, hbw', x0, x1, x2, x3⟩ := RowE.at_ (HR.out.below hb2) hxi
          obtain ⟨W, hW⟩ : ∃ W, W = wr.alloc (eObj x.mac x.port x.seen x.st) := ⟨_, rfl⟩
          have BW : Below wr.heap.size wr W := by rw [hW]; exact (Below.refl _ _).alloc (Nat.le_refl _) _
          have XW : Bx W wr.heap.size 57 #[.int .i64 x.mac, .int .i64 x.port, .int .i64 x.seen, .bool x.st] := by rw [hW]; exact Bx.new _ _ _ rfl
          have bW := Lib.hid (hb2.trans (BW.mono hs2))
          have ownW := Lib.hid (hm.out.below BW)
          have hke := keepL_snoc (p := (oldW ag now)) hxi
          have YR := Lib.hid (Y.out.below (hb.out.trans (hb2.mono hbs.out)))
          have hzW : wr.heap.size < W.heap.size := XW.lt
          replace XW := Lib.hid XW
          replace hs2 := Lib.hid hs2
          clear hxi hb2
          obtain ⟨y0, y1, y2⟩ := Bx.four' YR.out
          have hyl := YR.out.lt
          have hcall := Lib.hid (r_old x (.slice (some ⟨b, o, none⟩) bs.length c) s ag now W)
          clear BW
          go_wp2_with fail
          rw [← hW]
          clear hW x0 x1 x2 x3 hbw'
          go_at_call 48
          (with_reducible refine hcall.out.mono ?_)
          rintro e w3 ⟨rfl, hb3⟩
          have own3 := Lib.hid (ownW.out.below hb3)
          have b3 := Lib.hid (bW.out.trans (hb3.mono bW.out.size))
          have X3 := Lib.hid (XW.out.below hb3)
          clear y0 y1 y2 hb3 ownW bW hcall hyl hzW YR XW
          have c0 := X3.out.c (i := 0) rfl
          have c1 := X3.out.c (i := 1) rfl
          have c2 := X3.out.c (i := 2) rfl
          have c3 := X3.out.c (i := 3) rfl
          have hzW := X3.out.lt
          cases hp : oldW ag now x with
          | true =>
            rw [hp, if_pos rfl, List.append_nil] at hke
            replace hke := Lib.hid hke
            replace hp := Lib.hid hp
            go_wp2_with fail
            go_roundw
            case rel => exact ⟨i + 1, by omega, by go_num, by rw [hke.out]; exact own3.out, b3.out⟩
            case measure => simp [intOf]; omega
          | false =>
            rw [hp] at hke
            replace hke := Lib.hid (show keepL (oldW ag now) (l.take (i + 1)) = keepL (oldW ag now) (l.take i) ++ [x] by rw [hke]; rfl)
            replace hp := Lib.hid hp
            have own2 := Lib.hid (own3.out.below ((Below.refl _ _).alloc (Nat.le_refl _) (eObj x.mac x.port x.seen x.st)))
            have hlen := keepL_le (oldW ag now) (l.take i)
            rw [List.length_take] at hlen
            have hn1 : Hid (((keepL (oldW ag now) (l.take i)).map E.cells).length + [x.cells].length ≤ 1000000) := Lib.hid (by rw [List.length_map]; simp; omega)
            have hB2 : Hid (wo.heap.size ≤ (w3.alloc (eObj x.mac x.port x.seen x.st)).heap.size) := Lib.hid (by have := b3.out.size; simp; omega)
            have hsl := Lib.hid (sl_oneE w3 x w3.heap.size rfl)
            have bZ2 := Lib.hid (b3.out.alloc b3.out.size (eObj x.mac x.port x.seen x.st))
            replace hlen := Lib.hid hlen
            have hlv := Lib.hid (own3.out.lt)
            go_wp2_with (at_builtin; (refine wpList_append_sl rfl (.tmp 31) (.tmp 33) 55 rfl elE (by rfl) own2.out (by rfl) (by rfl) hsl.out (wholeE [x]) (fun h => by cases h) hn1.out hB2.out ?_); intro v' w9 own9 grow9 _)
            have B9 : Below wo.heap.size wo w9 := bZ2.out.grown grow9 bZ2.out.size (fun k hk => (hlv.out k hk).1)
            go_roundw
            case rel => exact ⟨i + 1, by omega, by go_num, by rw [hke.out]; unfold OwnE; rw [List.map_append]; exact own9, B9⟩
            case measure => simp [intOf]; omega
        · obtain rfl : i = l.length := by omega
          rw [List.take_length] at hm
          obtain ⟨Am, cm, hmv⟩ := OwnE.form' hm.out
          obtain ⟨nm, hnm⟩ : ∃ nm, (keepL (oldW ag now) l).length = nm := ⟨_, rfl⟩
          rw [hnm] at hmv
          subst hmv
          have hvlt := Lib.hid hown.out.lt
          have Mr := Lib.hid (show RowS (fun b => some b = v.ownBlock ∨ b < w0.heap.size) wr Am nm cm (keepL (oldW ag now) l) from ⟨own_rowE hm.out, fun hl b o e hs => by
            subst e
            have h1 := (hm.out.lt b rfl).1
            rcases hs with hs | hs
            · have := (hvlt.out b hs.symm).2
              omega
            · have := hbs.out
              omega⟩)
          have own1 := Lib.hid (hown.out.below hb2)
          have rows1 := Lib.hid (hrows.out.below hb2)
          have hbw2 := Lib.hid (hb.out.trans (hb2.mono hbs.out))
          have hsl := Lib.hid (sl_oneR wr ⟨Am, nm, cm⟩ _ rfl)
          have own2 := Lib.hid (own1.out.below ((Below.refl _ _).alloc (Nat.le_refl _) (.cells #[.slice Am nm cm] 55)))
          have rows2 := Lib.hid (rows1.out.below ((Below.refl _ _).alloc (Nat.le_refl _) (.cells #[.slice Am nm cm] 55)))
          have Mr2 := Lib.hid (Mr.out.below ((Below.refl _ _).alloc (Nat.le_refl _) (.cells #[.slice Am nm cm] 55)))
          have hn1 : Hid ((rs.map rcell).length + [rcell ⟨Am, nm, cm⟩].length ≤ 1000000) := Lib.hid (by rw [List.length_map]; simp; omega)
          have hB2 : Hid (w0.heap.size ≤ (wr.alloc (.cells #[.slice Am nm cm] 55)).heap.size) := Lib.hid (by have := hbw2.out.size; simp; omega)
          have bZ := Lib.hid (hbw2.out.alloc hbw2.out.size (.cells #[.slice Am nm cm] 55))
          clear hm hnm hb2 hs2
          go_wp2_with (at_builtin; (refine wpList_append_sl rfl (.tmp 36) (.tmp 38) 22 rfl elS (by rfl) own2.out (by rfl) (by rfl) hsl.out (whole_r [⟨Am, nm, cm⟩]) (fun h => by cases h) hn1.out hB2.out ?_); intro v' w9 own9 grow9 hloc9)
          have B9 := bZ.out.grown grow9 bZ.out.size (fun j hj => (hvlt.out j hj).1)
          go_roundw
          case rel => exact ⟨k + 1, rs ++ [⟨Am, nm, cm⟩], _, rfl, by omega, by rw [List.length_append]; simp; omega, by go_num, by unfold OwnR; rw [List.map_append]; exact own9, rows2.out.snoc grow9 hloc9 Mr2.out (by rw [hrs]; exact hkk.out) hB2.out, B9⟩
          case measure => simp [intOf]; omega
    · obtain rfl : k = bs.length := by omega
      obtain ⟨A9, c9, hv, _⟩ := hown.out.form
      rw [List.length_map, hrs] at hv
      subst hv
      have XB := X.out.below hb
      have YB := Y.out.below hb
      obtain ⟨x0, x1, x2⟩ := Bx.four' XB
      obtain ⟨y0, y1, y2⟩ := Bx.four' YB
      have f0 := YB.f 0
      have e0 := XB.f 0
      have g1 := XB.f 1
      have g2 := XB.f 2
      have hz1 : w.heap.size < wo.heap.size := YB.lt
      have hz2 : q < wo.heap.size := XB.lt
      have hzn : w.heap.size ≠ q := by have := e1.out; omega
      have BF := Lib.hid (bt B0.out hb)
      have hfin := Lib.hid fun v1 v2 v3 v4 => ((((hown.out.set hyw0.out 0 v1).set (q := q) hqw0.out 0 v2).set (q := q) hqw0.out 1 v3).set (q := q) hqw0.out 2 v4)
      have hlen : Hid (rs.length = (bs.map (keepL (oldW ag now))).length) := Lib.hid (by rw [List.length_map]; exact hrs)
      have hoff := Lib.hid fun (v1 v2 v3 v4 : Value) (S : Nat → Prop) (h1 : S w.heap.size) (h2 : S q) => (OffS.set (S := S) h1 wo 0 v1).trans (OffS.three (S := S) h2 _ v2 v3 v4)
      have BG := Lib.hid fun v1 v2 v3 v4 => below3 (BF.out.setCell (p := ⟨w.heap.size, 0, none⟩) (Nat.le_refl _) v1) hqw.out v2 v3 v4
      clear XB YB X Y hown B0 hb hrs
      go_wp2_with fail
      refine bodyPost_ret (v := tbv (.slice A9 bs.length c9) s ag) (by simp [results, Try.results27, go_sem, x0, x1, x2]) rfl ⟨A9, bs.length, c9, rfl, own_tabR (hfin.out _ _ _ _) hlen.out (fun j r xs h1 h2 => ((hrows.out j r xs h1 h2).keep (hoff.out _ _ _ _ _ (Or.inr hyw0.out) (Or.inr hqw0.out))).row), BG.out _ _ _ _⟩
set_option maxHeartbeats 32000000 in
theorem r_flush {A : Option Addr} {n c : Nat} {bs : List (List E)} (s ag port : Int) {w : World} (ht : TabS w A n c bs) (hs : Small bs) (hbl : ∀ l ∈ bs, l.length ≤ 100000) :
    Calls Try.prog 28 #[tbv (.slice A n c) s ag, .int .i64 port] w (RetT w (bs.map (keepL (flushR port))) s ag) := by
  obtain rfl := ht.len
  have hs1 := hs.1
  obtain ⟨w0, hw0⟩ : ∃ w0, w0 = (w.alloc (tObj (.slice A bs.length c) s ag)).alloc (tObj (.slice none 0 0) 0 0) := ⟨_, rfl⟩
  have B0 := Lib.hid (show Below w.heap.size w w0 by rw [hw0]; exact ((Below.refl _ _).alloc (Nat.le_refl _) _).alloc (by simp) _)
  have Y := Lib.hid (show Bx w0 w.heap.size TT #[.slice A bs.length c, .int .i64 s, .int .i64 ag] by rw [hw0]; exact (Bx.new w _ _ rfl).alloc _)
  obtain ⟨q, hq⟩ : ∃ q, q = w.heap.size + 1 := ⟨_, rfl⟩
  have X := Lib.hid (show Bx w0 q TT #[.slice none 0 0, .int .i64 0, .int .i64 0] by rw [hw0, hq]; exact Bx.new _ _ _ (by simp))
  obtain ⟨wA, hwA⟩ : ∃ wA, wA = w0.alloc (.cells #[] 55) := ⟨_, rfl⟩
  have BA := Lib.hid (show Below w0.heap.size w0 wA by rw [hwA]; exact (Below.refl _ _).alloc (Nat.le_refl _) _)
  have O1 := Lib.hid (show OwnR wA w0.heap.size (.slice (some ⟨w0.heap.size, 0, none⟩) 0 0) [] by rw [hwA]; exact own_litR w0 #[] [] w0.heap.size 0 (Nat.le_refl _) rfl rfl (by simp))
  have e2 := Lib.hid (show w.heap.size + 1 + 1 = w0.heap.size by rw [hw0]; simp)
  have e1 := Lib.hid hq
  have hqw := Lib.hid (show w.heap.size ≤ q by omega)
  have hqw0 := Lib.hid X.out.lt
  have hyw0 := Lib.hid Y.out.lt
  have H := Lib.hid ht
  have HB := Lib.hid hbl
  have YA := Y.out.below BA.out
  obtain ⟨y0, y1, y2⟩ := Bx.four' YA
  clear ht hs hbl YA hq
  go_enter Try.func28, Try.ntmps28
  go_wp2_with fail
  rw [e2.out, ← e1.out, ← hw0, ← hwA]
  clear hw0 hwA y0 y1 y2
  go_loopw [5, 15] (fun v0 i wr => ∃ (k : Nat) (rs : List Sla) (v : Value), v = v0 ∧ k ≤ bs.length ∧ rs.length = k ∧ i = .int .i64 k ∧ OwnR wr w0.heap.size v rs ∧ RowsOf w0.heap.size v wr rs (bs.map (keepL (flushR port))) ∧ Below w0.heap.size w0 wr) (fun _ i _ => bs.length - (intOf i).toNat)
  case atStart => exact ⟨0, [], _, rfl, by omega, rfl, rfl, O1.out, (fun j r xs h => by simp at h), BA.out⟩
  case round =>
    clear O1 BA
    obtain ⟨k, rs, v, rfl, hk, hrs, rfl, hown, hrows, hb⟩ := hrel
    obtain ⟨wo, rfl⟩ : ∃ y, y = wr := ⟨wr, rfl⟩
    have hbs := hb.size
    replace hown := Lib.hid hown
    replace hrows := Lib.hid hrows
    by_cases hlk : k < bs.length
    · obtain ⟨l, hx⟩ : ∃ xs, bs[k]? = some xs := ⟨_, List.getElem?_eq_getElem hlk⟩
      have hll := HB.out l (List.mem_of_getElem? hx)
      have hbb := B0.out.trans (hb.mono B0.out.size)
      obtain ⟨b, o, r, rfl, hbw, q0, hrow⟩ := H.out.row hx
      replace q0 := (hbb.cell (p := ⟨b, _, none⟩) hbw).trans q0
      have hbw2 : b < wo.heap.size := Nat.lt_of_lt_of_le hbw hbb.size
      obtain ⟨r1, r2, r3⟩ := r
      simp only at q0 hrow
      obtain rfl := hrow.len
      obtain ⟨w1, hw1⟩ : ∃ w1, w1 = wo.alloc (.cells #[] 57) := ⟨_, rfl⟩
      have B1 := Lib.hid (show Below wo.heap.size wo w1 by rw [hw1]; exact (Below.refl _ _).alloc (Nat.le_refl _) _)
      have M0 := Lib.hid (show OwnE w1 wo.heap.size (.slice (some ⟨wo.heap.size, 0, none⟩) 0 0) [] by rw [hw1]; exact own_litE wo #[] [] wo.heap.size 0 (Nat.le_refl _) rfl rfl (by simp))
      have HR := Lib.hid (hrow.below hbb)
      have hkk : (bs.map (keepL (flushR port)))[k]? = some (keepL (flushR port) l) := by rw [List.getElem?_map, hx]; rfl
      replace hkk := Lib.hid hkk
      replace hb := Lib.hid hb
      replace hbs := Lib.hid hbs
      clear hbb hrow hbw hx
      go_wp2_with fail
      rw [← hw1]
      clear hw1 q0 hbw2
      go_loopw [8, 22] (fun mv i wr => ∃ i' : Nat, i' ≤ l.length ∧ i = .int .i64 i' ∧ OwnE wr wo.heap.size mv (keepL (flushR port) (l.take i')) ∧ Below wo.heap.size wo wr) (fun _ i _ => l.length - (intOf i).toNat)
      case atStart => exact ⟨0, by omega, rfl, M0.out, B1.out⟩
      case round =>
        clear M0 B1
        obtain ⟨i, hi, rfl, hm, hb2⟩ := hrel
        have hs2 := hb2.size
        replace hm := Lib.hid hm
        by_cases hil : i < l.length
        · obtain ⟨⟨xm, xp, xs, xt⟩, hxi⟩ : ∃ x, l[i]? = some x := ⟨_, List.getElem?_eq_getElem hil⟩
          obtain ⟨b', o', rfl, hbw', x0, x1, x2, x3⟩ := RowE.at_ (HR.out.below hb2) hxi
          simp only at x0 x1 x2 x3
          obtain ⟨W, hW⟩ : ∃ W, W = wr.alloc (eObj xm xp xs xt) := ⟨_, rfl⟩
          have BW : Below wr.heap.size wr W := by rw [hW]; exact (Below.refl _ _).alloc (Nat.le_refl _) _
          have XW : Bx W wr.heap.size 57 #[.int .i64 xm, .int .i64 xp, .int .i64 xs, .bool xt] := by rw [hW]; exact Bx.new _ _ _ rfl
          have bW := Lib.hid (hb2.trans (BW.mono hs2))
          have ownW := Lib.hid (hm.out.below BW)
          have hke := keepL_snoc (p := (flushR port)) hxi
          have YR := Lib.hid (Y.out.below (hb.out.trans (hb2.mono hbs.out)))
          have hzW : wr.heap.size < W.heap.size := XW.lt
          replace XW := Lib.hid XW
          replace hs2 := Lib.hid hs2
          clear hxi hb2
          clear BW
          cases xt with
          | true =>
            have hp : (flushR port) ⟨xm, xp, xs, true⟩ = false := by simp [flushR]
            rw [hp] at hke
            replace hke := Lib.hid (show keepL (flushR port) (l.take (i + 1)) = keepL (flushR port) (l.take i) ++ [⟨xm, xp, xs, true⟩] by rw [hke]; rfl)
            replace hp := Lib.hid hp
            have own2 := Lib.hid (ownW.out.below ((Below.refl _ _).alloc (Nat.le_refl _) (eObj xm xp xs true)))
            have hlen := keepL_le (flushR port) (l.take i)
            rw [List.length_take] at hlen
            have hn1 : Hid (((keepL (flushR port) (l.take i)).map E.cells).length + [(⟨xm, xp, xs, true⟩ : E).cells].length ≤ 1000000) := Lib.hid (by rw [List.length_map]; simp; omega)
            have hB2 : Hid (wo.heap.size ≤ (W.alloc (eObj xm xp xs true)).heap.size) := Lib.hid (by have := bW.out.size; simp; omega)
            have hsl := Lib.hid (sl_oneE W ⟨xm, xp, xs, true⟩ (wr.heap.size + 1) (by rw [hW]; simp))
            have bZ2 := Lib.hid (bW.out.alloc bW.out.size (eObj xm xp xs true))
            replace hlen := Lib.hid hlen
            rw [hW] at own2 hB2 hsl bZ2
            have hlv := Lib.hid (ownW.out.lt)
            go_wp2_with (at_builtin; (refine wpList_append_sl rfl (.tmp 38) (.tmp 40) 55 rfl elE (by rfl) own2.out (by rfl) (by rfl) hsl.out (wholeE [⟨xm, xp, xs, true⟩]) (fun h => by cases h) hn1.out hB2.out ?_); intro v' w9 own9 grow9 _)
            have B9 : Below wo.heap.size wo w9 := bZ2.out.grown grow9 bZ2.out.size (fun k hk => (hlv.out k hk).1)
            go_roundw
            case rel => exact ⟨i + 1, by omega, by go_num, by rw [hke.out]; unfold OwnE; rw [List.map_append]; exact own9, B9⟩
            case measure => simp [intOf]; omega
          | false =>
            by_cases hp0 : (0 : Int) ≤ port
            · cases hpp : xp != port with
              | true =>
                have hp : (flushR port) ⟨xm, xp, xs, false⟩ = false := by simp [flushR, hp0, hpp]
                rw [hp] at hke
                replace hke := Lib.hid (show keepL (flushR port) (l.take (i + 1)) = keepL (flushR port) (l.take i) ++ [⟨xm, xp, xs, false⟩] by rw [hke]; rfl)
                replace hp := Lib.hid hp
                have own2 := Lib.hid (ownW.out.below ((Below.refl _ _).alloc (Nat.le_refl _) (eObj xm xp xs false)))
                have hlen := keepL_le (flushR port) (l.take i)
                rw [List.length_take] at hlen
                have hn1 : Hid (((keepL (flushR port) (l.take i)).map E.cells).length + [(⟨xm, xp, xs, false⟩ : E).cells].length ≤ 1000000) := Lib.hid (by rw [List.length_map]; simp; omega)
                have hB2 : Hid (wo.heap.size ≤ (W.alloc (eObj xm xp xs false)).heap.size) := Lib.hid (by have := bW.out.size; simp; omega)
                have hsl := Lib.hid (sl_oneE W ⟨xm, xp, xs, false⟩ (wr.heap.size + 1) (by rw [hW]; simp))
                have bZ2 := Lib.hid (bW.out.alloc bW.out.size (eObj xm xp xs false))
                replace hlen := Lib.hid hlen
                rw [hW] at own2 hB2 hsl bZ2
                have hlv := Lib.hid (ownW.out.lt)
                go_wp2_with (at_builtin; (refine wpList_append_sl rfl (.tmp 38) (.tmp 40) 55 rfl elE (by rfl) own2.out (by rfl) (by rfl) hsl.out (wholeE [⟨xm, xp, xs, false⟩]) (fun h => by cases h) hn1.out hB2.out ?_); intro v' w9 own9 grow9 _)
                have B9 : Below wo.heap.size wo w9 := bZ2.out.grown grow9 bZ2.out.size (fun k hk => (hlv.out k hk).1)
                go_roundw
                case rel => exact ⟨i + 1, by omega, by go_num, by rw [hke.out]; unfold OwnE; rw [List.map_append]; exact own9, B9⟩
                case measure => simp [intOf]; omega
              | false =>
                have hp : (flushR port) ⟨xm, xp, xs, false⟩ = true := by simp [flushR, hp0, hpp]
                rw [hp, if_pos rfl, List.append_nil] at hke
                replace hke := Lib.hid hke
                replace hp := Lib.hid hp
                go_wp2_with fail
                rw [← hW]
                go_roundw
                case rel => exact ⟨i + 1, by omega, by go_num, by rw [hke.out]; exact ownW.out, bW.out⟩
                case measure => simp [intOf]; omega
            · skip
              have hp : (flushR port) ⟨xm, xp, xs, false⟩ = true := by simp [flushR, hp0]
              rw [hp, if_pos rfl, List.append_nil] at hke
              replace hke := Lib.hid hke
              replace hp := Lib.hid hp
              go_wp2_with fail
              rw [← hW]
              go_roundw
              case rel => exact ⟨i + 1, by omega, by go_num, by rw [hke.out]; exact ownW.out, bW.out⟩
              case measure => simp [intOf]; omega
        · obtain rfl : i = l.length := by omega
          rw [List.take_length] at hm
          obtain ⟨Am, cm, hmv⟩ := OwnE.form' hm.out
          obtain ⟨nm, hnm⟩ : ∃ nm, (keepL (flushR port) l).length = nm := ⟨_, rfl⟩
          rw [hnm] at hmv
          subst hmv
          have hvlt := Lib.hid hown.out.lt
          have Mr := Lib.hid (show RowS (fun b => some b = v.ownBlock ∨ b < w0.heap.size) wr Am nm cm (keepL (flushR port) l) from ⟨own_rowE hm.out, fun hl b o e hs => by
            subst e
            have h1 := (hm.out.lt b rfl).1
            rcases hs with hs | hs
            · have := (hvlt.out b hs.symm).2
              omega
            · have := hbs.out
              omega⟩)
          have own1 := Lib.hid (hown.out.below hb2)
          have rows1 := Lib.hid (hrows.out.below hb2)
          have hbw2 := Lib.hid (hb.out.trans (hb2.mono hbs.out))
          have hsl := Lib.hid (sl_oneR wr ⟨Am, nm, cm⟩ _ rfl)
          have own2 := Lib.hid (own1.out.below ((Below.refl _ _).alloc (Nat.le_refl _) (.cells #[.slice Am nm cm] 55)))
          have rows2 := Lib.hid (rows1.out.below ((Below.refl _ _).alloc (Nat.le_refl _) (.cells #[.slice Am nm cm] 55)))
          have Mr2 := Lib.hid (Mr.out.below ((Below.refl _ _).alloc (Nat.le_refl _) (.cells #[.slice Am nm cm] 55)))
          have hn1 : Hid ((rs.map rcell).length + [rcell ⟨Am, nm, cm⟩].length ≤ 1000000) := Lib.hid (by rw [List.length_map]; simp; omega)
          have hB2 : Hid (w0.heap.size ≤ (wr.alloc (.cells #[.slice Am nm cm] 55)).heap.size) := Lib.hid (by have := hbw2.out.size; simp; omega)
          have bZ := Lib.hid (hbw2.out.alloc hbw2.out.size (.cells #[.slice Am nm cm] 55))
          clear hm hnm hb2 hs2
          go_wp2_with (at_builtin; (refine wpList_append_sl rfl (.tmp 43) (.tmp 45) 22 rfl elS (by rfl) own2.out (by rfl) (by rfl) hsl.out (whole_r [⟨Am, nm, cm⟩]) (fun h => by cases h) hn1.out hB2.out ?_); intro v' w9 own9 grow9 hloc9)
          have B9 := bZ.out.grown grow9 bZ.out.size (fun j hj => (hvlt.out j hj).1)
          go_roundw
          case rel => exact ⟨k + 1, rs ++ [⟨Am, nm, cm⟩], _, rfl, by omega, by rw [List.length_append]; simp; omega, by go_num, by unfold OwnR; rw [List.map_append]; exact own9, rows2.out.snoc grow9 hloc9 Mr2.out (by rw [hrs]; exact hkk.out) hB2.out, B9⟩
          case measure => simp [intOf]; omega
    · obtain rfl : k = bs.length := by omega
      obtain ⟨A9, c9, hv, _⟩ := hown.out.form
      rw [List.length_map, hrs] at hv
      subst hv
      have XB := X.out.below hb
      have YB := Y.out.below hb
      obtain ⟨x0, x1, x2⟩ := Bx.four' XB
      obtain ⟨y0, y1, y2⟩ := Bx.four' YB
      have f0 := YB.f 0
      have e0 := XB.f 0
      have g1 := XB.f 1
      have g2 := XB.f 2
      have hz1 : w.heap.size < wo.heap.size := YB.lt
      have hz2 : q < wo.heap.size := XB.lt
      have hzn : w.heap.size ≠ q := by have := e1.out; omega
      have BF := Lib.hid (bt B0.out hb)
      have hfin := Lib.hid fun v1 v2 v3 v4 => ((((hown.out.set hyw0.out 0 v1).set (q := q) hqw0.out 0 v2).set (q := q) hqw0.out 1 v3).set (q := q) hqw0.out 2 v4)
      have hlen : Hid (rs.length = (bs.map (keepL (flushR port))).length) := Lib.hid (by rw [List.length_map]; exact hrs)
      have hoff := Lib.hid fun (v1 v2 v3 v4 : Value) (S : Nat → Prop) (h1 : S w.heap.size) (h2 : S q) => (OffS.set (S := S) h1 wo 0 v1).trans (OffS.three (S := S) h2 _ v2 v3 v4)
      have BG := Lib.hid fun v1 v2 v3 v4 => below3 (BF.out.setCell (p := ⟨w.heap.size, 0, none⟩) (Nat.le_refl _) v1) hqw.out v2 v3 v4
      clear XB YB X Y hown B0 hb hrs
      go_wp2_with fail
      refine bodyPost_ret (v := tbv (.slice A9 bs.length c9) s ag) (by simp [results, Try.results28, go_sem, x0, x1, x2]) rfl ⟨A9, bs.length, c9, rfl, own_tabR (hfin.out _ _ _ _) hlen.out (fun j r xs h1 h2 => ((hrows.out j r xs h1 h2).keep (hoff.out _ _ _ _ _ (Or.inr hyw0.out) (Or.inr hqw0.out))).row), BG.out _ _ _ _⟩
end Go.Proofs.Ytnghilcjecjljaa.FdbP
