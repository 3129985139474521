/-
  few.
-/
import Derived.Test.YtnghilcjecjljaaFdbR
namespace Go.Proofs.Ytnghilcjecjljaa.FdbP
open Go.RowKit Go.Sort Go.Proofs.Ytnghilcjecjljaa.SliceP Go.Proofs.Ytnghilcjecjljaa.MacP
set_option linter.unusedVariables false
set_option maxRecDepth 100000

def fewT (bs : List (List E)) : List (List E) := (bs.take 20).map (List.take 8)
theorem fewT_small (bs : List (List E)) : Small (fewT bs) := by
  refine ⟨by unfold fewT; rw [List.length_map, List.length_take]; omega, fun xs hx => ?_⟩
  unfold fewT at hx
  obtain ⟨y, _, rfl⟩ := List.mem_map.1 hx
  rw [List.length_take]; omega
def cutR (r : Option Addr × Nat × Nat) : List Value := [.slice r.1 (min r.2.1 8) r.2.2]
theorem sl_cut (W : World) (ra : Option Addr) (rn rc q : Nat) (hq : W.heap.size = q) : Sl (W.alloc (.cells #[.slice ra (min (rn : Int) 8).toNat rc] 55)) 1 (some ⟨q, 0, none⟩) [cutR ⟨ra, rn, rc⟩] := fun _ => by
  subst hq
  refine ⟨W.heap.size, 0, rfl, by simp, fun k cs hk j v hj => ?_⟩
  have e : (min (rn : Int) 8).toNat = min rn 8 := by omega
  match k, hk with
  | 0, hk =>
    obtain rfl : cutR ⟨ra, rn, rc⟩ = cs := by simpa using hk
    match j, hj with
    | 0, hj => simp [cutR] at hj; subst hj; rw [e]; go_simp
    | j + 1, hj => simp [cutR] at hj
  | k + 1, hk => simp at hk
theorem whole_cut (r : Option Addr × Nat × Nat) : Whole 1 [cutR r] := fun cs hc => by
  obtain rfl : cs = cutR r := by simpa using hc
  exact ⟨rfl, fun u hu => by simp [cutR] at hu; subst hu; rfl⟩
abbrev OwnS (w : World) (B : Nat) (v : Value) (rs : List (Option Addr × Nat × Nat)) : Prop := SliceP.Own w B 55 1 v (rs.map cutR)
theorem OwnS.set {w : World} {B q : Nat} {v : Value} {rs : List (Option Addr × Nat × Nat)} (h : OwnS w B v rs) (hq : q < B) (i : Nat) (u : Value) : OwnS (w.setCell ⟨q, i, none⟩ u) B v rs :=
  Own.kept h (setCell_grown' w q i u) (by
    cases hv : v.ownBlock with
    | none => exact .inl rfl
    | some k => exact .inr (by have := (h.lt k hv).1; simp; omega))
/-- Kept, whatever is written into block q. -/
def Off (q : Nat) (w w' : World) : Prop := w.heap.size ≤ w'.heap.size ∧ ∀ p : Addr, p.block < w.heap.size → p.block ≠ q → w'.cell? p = w.cell? p
def TabQ (q : Nat) (w : World) (A : Option Addr) (n c : Nat) (bs : List (List E)) : Prop := ∀ w', Off q w w' → TabS w' A n c bs
theorem Off.below {q : Nat} {w w' : World} (h : Below w.heap.size w w') : Off q w w' := ⟨h.size, fun p hp _ => h.cell hp⟩
theorem Off.trans {q : Nat} {a b c : World} (h : Off q a b) (k : Off q b c) : Off q a c := ⟨Nat.le_trans h.1 k.1, fun p hp hq => (k.2 p (Nat.lt_of_lt_of_le hp h.1) hq).trans (h.2 p hp hq)⟩
theorem Off.three {q : Nat} (w : World) (v0 v1 v2 : Value) : Off q w (((w.setCell ⟨q, 0, none⟩ v0).setCell ⟨q, 1, none⟩ v1).setCell ⟨q, 2, none⟩ v2) := by
  refine ⟨by simp, fun p hp hq => ?_⟩
  rw [World.cell?_setCell_other _ _ _ _ (by rintro rfl; exact hq rfl), World.cell?_setCell_other _ _ _ _ (by rintro rfl; exact hq rfl), World.cell?_setCell_other _ _ _ _ (by rintro rfl; exact hq rfl)]
theorem TabQ.off {q : Nat} {w w' : World} {A : Option Addr} {n c : Nat} {bs : List (List E)} (h : TabQ q w A n c bs) (k : Off q w w') : TabQ q w' A n c bs := fun w'' h' => h w'' (k.trans h')
theorem TabQ.tab {q : Nat} {w : World} {A : Option Addr} {n c : Nat} {bs : List (List E)} (h : TabQ q w A n c bs) : TabS w A n c bs := h w ⟨Nat.le_refl _, fun _ _ _ => rfl⟩
theorem TabQ.below {q : Nat} {w w' : World} {A : Option Addr} {n c : Nat} {bs : List (List E)} (h : TabQ q w A n c bs) (hb : Below w.heap.size w w') : TabQ q w' A n c bs := h.off (Off.below hb)
theorem RowE.keep {w w' : World} {A : Option Addr} {n c : Nat} {l : List E} (h : RowE w A n c l) (hs : w.heap.size ≤ w'.heap.size) (hc : ∀ p : Addr, p.block < w.heap.size → w'.cell? p = w.cell? p) : RowE w' A n c l := ⟨h.len, Sl.keep h.sl hs hc, h.cap, h.nil⟩
/-- What few owns, where all that its slices point to lies below q. -/
theorem own_tabQ {W w' : World} {A A' : Option Addr} {n n' c c' B : Nat} {rs : List (Option Addr × Nat × Nat)} {bs : List (List E)} (hT : TabI W A n c rs bs) (hW : Below W.heap.size W w') (hq : W.heap.size < B)
    (ho : OwnS w' B (.slice A' n' c') (rs.take 20)) : TabQ W.heap.size w' A' n' c' (fewT bs) := by
  have hl := hT.len
  have hl' := hT.len'
  obtain ⟨A9, c9, hv, hcap, _, hA⟩ := ho.form
  have hsl := ho.sl (by decide)
  injection hv with e1 e2 e3
  subst e1; subst e3
  rw [List.length_map] at e2 hcap
  intro w'' hO
  have hs := hW.size
  refine ⟨by rw [e2]; unfold fewT; rw [List.length_map, List.length_take, List.length_take, ← hl, ← hl'], by omega, fun hn => ?_, fun k xs hk => ?_⟩
  · rcases hA with ⟨_, _, h0⟩ | ⟨g, h1, _⟩
    · exact h0
    · rw [hn] at h1; cases h1
  · unfold fewT at hk
    rw [List.getElem?_map] at hk
    obtain ⟨ys, hy, rfl⟩ := Option.map_eq_some_iff.1 hk
    rw [List.getElem?_take] at hy
    split at hy
    · rename_i hk20
      have hkl : k < rs.length := by have := (List.getElem?_eq_some_iff.1 hy).1; omega
      obtain ⟨r, hr⟩ : ∃ r, rs[k]? = some r := ⟨_, List.getElem?_eq_getElem hkl⟩
      obtain ⟨_, _, _, _, _, hrow⟩ := hT.at_ k r ys hr hy
      obtain ⟨b, o, rfl, hb, hx⟩ := Sl.at_ hsl (k := k) (cs := cutR r) (by rw [List.getElem?_map, List.getElem?_take, if_pos hk20, hr]; rfl)
      have hx0 := hx 0 _ rfl
      have hbB : B ≤ b := by
        rcases hA with ⟨h1, _, _⟩ | ⟨g, h1, h2, _⟩
        · cases h1
        · obtain ⟨rfl, _⟩ : b = g ∧ o = 0 := by simpa using h1
          exact h2
      rw [Nat.mul_one, Nat.add_zero] at hx0
      refine ⟨b, o, r.1, min r.2.1 8, r.2.2, rfl, Nat.lt_of_lt_of_le hb hO.1, (hO.2 ⟨b, _, none⟩ hb (by show b ≠ _; omega)).trans hx0, ?_⟩
      have h8 := (hrow.row.take (min ys.length 8) (Nat.min_le_left _ _))
      rw [← hrow.row.len] at h8
      have e8 : ys.take (min r.2.1 8) = ys.take 8 := by
        rw [hrow.row.len]
        by_cases h : 8 ≤ ys.length
        · rw [Nat.min_eq_right h]
        · rw [Nat.min_eq_left (by omega), List.take_length, List.take_of_length_le (by omega)]
      rw [e8] at h8
      refine h8.keep (Nat.le_trans hs hO.1) fun p hp => ?_
      exact (hO.2 p (Nat.lt_of_lt_of_le hp hs) (by omega)).trans (hW.cell hp)
    · cases hy
def Few (q : Nat) (w : World) (bs : List (List E)) (s ag : Int) (e : Ending) (w' : World) : Prop := ∃ A n c, e = .returned (tbv (.slice A n c) s ag) ∧ TabQ q w' A n c (fewT bs) ∧ Below w.heap.size w w'
set_option maxHeartbeats 8000000 in
theorem few_in {W : World} {A : Option Addr} {n c : Nat} {rs : List (Option Addr × Nat × Nat)} {bs : List (List E)} (s ag : Int) (hT : TabI W A n c rs bs) {w : World} (hb0 : Below W.heap.size W w) (hq : W.heap.size < w.heap.size) :
    Calls Try.prog 8 #[tbv (.slice A n c) s ag] w (Few W.heap.size w bs s ag) := by
  obtain ⟨w0, hw0⟩ : ∃ w0, w0 = (w.alloc (tObj (.slice A n c) s ag)).alloc (tObj (.slice none 0 0) 0 0) := ⟨_, rfl⟩
  have B0 : Below w.heap.size w w0 := by rw [hw0]; exact ((Below.refl _ _).alloc (Nat.le_refl _) _).alloc (by simp) _
  have Y : Bx w0 w.heap.size 24 #[.slice A n c, .int .i64 s, .int .i64 ag] := by rw [hw0]; exact (Bx.new w _ _ rfl).alloc _
  have X : Bx w0 (w.heap.size + 1) 24 #[.slice none 0 0, .int .i64 0, .int .i64 0] := by rw [hw0]; exact Bx.new _ _ _ (by simp)
  have hcap := hT.cap
  have hbig := hT.big
  obtain ⟨x0, x1, x2⟩ := Bx.four' X
  obtain ⟨y0, y1, y2⟩ := Bx.four' Y
  have f0 := Y.f 0
  have f1 := Y.f 1
  have f2 := Y.f 2
  have e0 := X.f 0
  have e1 := X.f 1
  have e2 := X.f 2
  go_enter Try.func8, Try.ntmps8
  go_wp2_with fail
  rw [← hw0]
  obtain ⟨m, hm⟩ : ∃ m : Nat, m = min n 20 := ⟨_, rfl⟩
  have m1 : (min (n : Int) 20).toNat = m := by omega
  have m2 : max (min (n : Int) 20) 0 = (m : Int) := by omega
  rw [m1, m2]
  have hl := hT.len'
  have hl2 := hT.len
  replace hT := Lib.hid hT
  replace X := Lib.hid X
  replace Y := Lib.hid Y
  replace B0 := Lib.hid B0
  have Bw : Below W.heap.size W w0 := hb0.trans (B0.out.mono hb0.size)
  replace Bw := Lib.hid Bw
  have hz0 := X.out.lt
  clear hw0 m1 m2 y0 y1 y2 f0 f1 f2 x0 x1 x2 e0 e1 e2
  go_loopw [3, 14] (fun v i wr => ∃ k : Nat, k ≤ m ∧ i = .int .i64 k ∧ OwnS wr w0.heap.size v (rs.take k) ∧ Below w0.heap.size w0 wr) (fun _ i _ => m - (intOf i).toNat)
  case atStart => exact ⟨0, by omega, rfl, Own.nil _ _ _ _, Below.refl _ _⟩
  case round =>
    obtain ⟨k, hk, rfl, hown, hb⟩ := hrel
    replace hown := Lib.hid hown
    by_cases hlk : k < m
    · obtain ⟨⟨ra, rn, rc⟩, hr⟩ : ∃ r, rs[k]? = some r := ⟨_, List.getElem?_eq_getElem (by omega)⟩
      obtain ⟨xs, hxs⟩ : ∃ xs, bs[k]? = some xs := ⟨_, List.getElem?_eq_getElem (by omega)⟩
      obtain ⟨b, o, rfl, hbw, x0, hrow⟩ := hT.out.at_ k _ xs hr hxs
      simp only at x0 hrow
      have hWs := Bw.out.size
      replace x0 := (hb.cell (p := ⟨b, _, none⟩) (Nat.lt_of_lt_of_le hbw hWs)).trans ((Bw.out.cell (p := ⟨b, _, none⟩) hbw).trans x0)
      have hs := hb.size
      have c1 := hrow.row.cap
      have c2 := hrow.big
      have hsl := Lib.hid (sl_cut wr ra rn rc _ rfl)
      have own2 := Lib.hid (hown.out.below ((Below.refl _ _).alloc (Nat.le_refl _) (.cells #[.slice ra (min (rn : Int) 8).toNat rc] 55)))
      have hn1 : Hid (((rs.take k).map cutR).length + [cutR ⟨ra, rn, rc⟩].length ≤ 1000000) := Lib.hid (by rw [List.length_map, List.length_take]; simp; omega)
      have hB2 : Hid (w0.heap.size ≤ (wr.alloc (.cells #[.slice ra (min (rn : Int) 8).toNat rc] 55)).heap.size) := Lib.hid (by simp; omega)
      have hn := Lib.hid (show (rs.take (k + 1)).map cutR = (rs.take k).map cutR ++ [cutR ⟨ra, rn, rc⟩] by rw [List.take_add_one, hr, List.map_append]; rfl)
      have hbA := Lib.hid (hb.alloc hs (.cells #[.slice ra (min (rn : Int) 8).toNat rc] 55))
      have hk20 : k + 1 ≤ 1000 := by omega
      replace hr := Lib.hid hr
      replace hxs := Lib.hid hxs
      replace hm := Lib.hid hm
      replace hl := Lib.hid hl
      replace hl2 := Lib.hid hl2
      replace hrow := Lib.hid hrow
      replace hz0 := Lib.hid hz0
      replace hs := Lib.hid hs
      clear hWs
      go_wp2_with (at_builtin; (refine wpList_append_sl rfl (.tmp 18) (.tmp 24) 22 rfl elS (by rfl) own2.out (by rfl) (by rfl) hsl.out (whole_cut _) (fun h => by cases h) hn1.out hB2.out ?_); intro v' w1 own1 grow1 _)
      have B1 : Below w0.heap.size w0 w1 := hbA.out.grown grow1 (by simp; have := hs.out; omega) (fun k hk => (hown.out.lt k hk).1)
      go_roundw
      case rel => exact ⟨k + 1, by omega, by go_num, by rw [← hn.out] at own1; exact own1, B1⟩
      case measure => simp [intOf]; omega
    · obtain rfl : k = m := by omega
      have hte : rs.take k = rs.take 20 := by
        have h1 : k = min rs.length 20 := by omega
        rw [h1]
        by_cases h : 20 ≤ rs.length
        · rw [Nat.min_eq_right h]
        · rw [Nat.min_eq_left (by omega), List.take_length, List.take_of_length_le (by omega)]
      rw [hte] at hown
      have hlen : (rs.take 20).length = k := by rw [List.length_take, hm, hl]; exact Nat.min_comm _ _
      obtain ⟨A9, c9, hv, _⟩ := hown.out.form
      rw [List.length_map, hlen] at hv
      subst hv
      have XB := X.out.below hb
      have YB := Y.out.below hb
      obtain ⟨x0, x1, x2⟩ := Bx.four' XB
      obtain ⟨y0, y1, y2⟩ := Bx.four' YB
      have f0 := YB.f 0
      have e0 := XB.f 0
      have e1 := XB.f 1
      have e2 := XB.f 2
      have hz1 : w.heap.size < wr.heap.size := YB.lt
      have hz2 := Lib.hid XB.lt
      have BF := Lib.hid (bt B0.out hb)
      have hz9 := Lib.hid hz0
      have hfin := Lib.hid fun v1 v2 v3 => own_tabQ hT.out ((Bw.out.trans (hb.mono Bw.out.size)).setCell (p := ⟨w.heap.size, 0, none⟩) (show W.heap.size ≤ w.heap.size by omega) v1 |>.setCell (p := ⟨w.heap.size + 1, 0, none⟩) (show W.heap.size ≤ w.heap.size + 1 by omega) v1 |>.setCell (p := ⟨w.heap.size + 1, 1, none⟩) (show W.heap.size ≤ w.heap.size + 1 by omega) v2 |>.setCell (p := ⟨w.heap.size + 1, 2, none⟩) (show W.heap.size ≤ w.heap.size + 1 by omega) v3) (show W.heap.size < w0.heap.size by omega)
        ((((hown.out.set (show w.heap.size < w0.heap.size by omega) 0 v1).set (q := w.heap.size + 1) (by omega) 0 v1).set (q := w.heap.size + 1) (by omega) 1 v2).set (q := w.heap.size + 1) (by omega) 2 v3)
      clear XB YB X Y hte hown hz0 B0 Bw hb hT hlen hl hl2 hm
      go_wp2_with fail
      refine bodyPost_ret (v := tbv (.slice A9 k c9) s ag) (by simp [results, Try.results8, go_sem, x0, x1, x2]) rfl ⟨A9, k, c9, rfl, hfin.out _ _ _, ?_⟩
      repeat (first | with_reducible exact BF.out | refine Below.setCell ?_ (by first | omega | (simp; done) | (simp; omega)) _)
end Go.Proofs.Ytnghilcjecjljaa.FdbP
