/-
  Contracts of footwayref05.Arm and of alive.
-/
import Derived.Test.YtdieoecpacplmaaWheelR
namespace Go.Proofs.Ytdieoecpacplmaa.WheelP
open Go.RowKit Go.Sort Go.Proofs.Ytdieoecpacplmaa.SliceP Go.Proofs.Ytdieoecpacplmaa.MacP
set_option linter.unusedVariables false
set_option maxRecDepth 100000

def anyA (x : T) (l : List T) : Bool := l.any fun y => decide (aheadP x y)
theorem insT_done (x y : T) : ∀ {l : List T}, anyA x l = true → insT x (l ++ [y]) = insT x l ++ [y]
  | [], h => by cases h
  | z :: r, h => by
    rw [List.cons_append, insT, insT]
    split
    · rfl
    · rename_i hz
      have h' : anyA x r = true := by
        unfold anyA at *
        rw [List.any_cons] at h
        simpa [hz] using h
      rw [insT_done x y h']; rfl
theorem insT_now (x y : T) : ∀ {l : List T}, anyA x l = false → aheadP x y → insT x (l ++ [y]) = l ++ [x] ++ [y]
  | [], _, h => by simp [insT, h]
  | z :: r, hl, h => by
    have h1 : ¬ aheadP x z ∧ anyA x r = false := by
      unfold anyA at *
      rw [List.any_cons, Bool.or_eq_false_iff, decide_eq_false_iff_not] at hl
      exact hl
    rw [List.cons_append, insT, if_neg h1.1, insT_now x y h1.2 h]; rfl
theorem insT_end (x : T) : ∀ {l : List T}, anyA x l = false → insT x l = l ++ [x]
  | [], _ => rfl
  | z :: r, hl => by
    have h1 : ¬ aheadP x z ∧ anyA x r = false := by
      unfold anyA at *
      rw [List.any_cons, Bool.or_eq_false_iff, decide_eq_false_iff_not] at hl
      exact hl
    rw [insT, if_neg h1.1, insT_end x h1.2]; rfl
/-- What has been put out behind some. -/
def outT (x : T) (l : List T) : List T := if anyA x l = true then insT x l else l
theorem any_more {x y : T} {l : List T} {k : Nat} (hy : l[k]? = some y) : anyA x (l.take (k + 1)) = (anyA x (l.take k) || decide (aheadP x y)) := by
  unfold anyA; rw [List.take_add_one, hy, List.any_append]; simp
theorem out_done {x y : T} {l : List T} {k : Nat} (hy : l[k]? = some y) (h : anyA x (l.take k) = true) : outT x (l.take (k + 1)) = outT x (l.take k) ++ [y] ∧ anyA x (l.take (k + 1)) = true := by
  have h1 : anyA x (l.take (k + 1)) = true := by rw [any_more hy, h]; rfl
  refine ⟨?_, h1⟩
  unfold outT
  rw [if_pos h1, if_pos h, List.take_add_one, hy]
  exact insT_done x y h
theorem out_now {x y : T} {l : List T} {k : Nat} (hy : l[k]? = some y) (h : anyA x (l.take k) = false) (ha : aheadP x y) : outT x (l.take (k + 1)) = outT x (l.take k) ++ [x] ++ [y] ∧ anyA x (l.take (k + 1)) = true := by
  have h1 : anyA x (l.take (k + 1)) = true := by rw [any_more hy, h]; simp [ha]
  refine ⟨?_, h1⟩
  unfold outT
  rw [if_pos h1, if_neg (by rw [h]; simp), List.take_add_one, hy]
  exact insT_now x y h ha
theorem out_not {x y : T} {l : List T} {k : Nat} (hy : l[k]? = some y) (h : anyA x (l.take k) = false) (ha : ¬ aheadP x y) : outT x (l.take (k + 1)) = outT x (l.take k) ++ [y] ∧ anyA x (l.take (k + 1)) = false := by
  have h1 : anyA x (l.take (k + 1)) = false := by rw [any_more hy, h]; simp [ha]
  refine ⟨?_, h1⟩
  unfold outT
  rw [if_neg (by rw [h1]; simp), if_neg (by rw [h]; simp), List.take_add_one, hy]; rfl
theorem out_length (x : T) (l : List T) : (outT x l).length ≤ l.length + 1 := by
  unfold outT; split
  · rw [insT_length]; omega
  · omega

structure ArmS (w w1 : World) (v : Value) (l : List T) (wr : World) : Prop where
  own : OwnT wr (w.heap.size + 1) v l
  gr : w1.grownBy wr (some (w.heap.size + 1))
  blk : ∀ j, v.ownBlock = some j → j = w.heap.size + 1 ∨ w1.heap.size ≤ j
  bel : Below w.heap.size w wr
theorem ArmS.alloc {w w1 wr W : World} {v : Value} {l : List T} (h : ArmS w w1 v l wr) (hW : Below wr.heap.size wr W) : ArmS w w1 v l W :=
  ⟨h.own.below hW, grown_trans h.gr (grown_none hW) (fun j hj => by cases hj), h.blk, h.bel.trans (hW.mono h.bel.size)⟩
theorem ArmS.step {w w1 W w3 : World} {v v' : Value} {l : List T} {z : T} (h : ArmS w w1 v l W) (own' : OwnT w3 (w.heap.size + 1) v' (l ++ [z])) (hg : W.grownBy w3 v.ownBlock) (hor : v'.ownBlock = v.ownBlock ∨ v'.ownBlock = some W.heap.size) : ArmS w w1 v' (l ++ [z]) w3 := by
  refine ⟨own', grown_trans h.gr hg (fun j hj => ?_), fun j hj => ?_, h.bel.grown hg h.bel.size (fun j hj => ?_)⟩
  · rcases h.blk j hj with h1 | h1
    · exact .inr (by rw [h1])
    · exact .inl h1
  · rcases hor with h1 | h1
    · exact h.blk j (by rw [← h1, hj])
    · rw [hj] at h1
      have := Option.some.inj h1
      have h2 := h.gr.size
      right; omega
  · have := (h.own.lt j hj).1; omega
theorem ArmS.cell {w w1 wr : World} {v : Value} {l : List T} (h : ArmS w w1 v l wr) {b o : Nat} {u : Value} (hb : b < w1.heap.size) (hne : b ≠ w.heap.size + 1) (hc : w1.cell? ⟨b, o, none⟩ = some u) : wr.cell? ⟨b, o, none⟩ = some u :=
  (World.cell?_of_block (h.gr.block b hb (fun e => hne (Option.some.inj e)))).trans hc

set_option maxHeartbeats 4000000 in
theorem ref_arm_any {A : Option Addr} {n cap : Nat} {l : List T} {w : World} (h : RowT w A n cap l) (hl : l.length ≤ 1000) (i a : Int) :
    Calls Try.prog 15 #[.slice A n cap, tv i a] w (RetT w (insT ⟨i, a⟩ (without l i))) := by
  have hol : (without l i).length ≤ 1000 := Nat.le_trans (without_length l i) hl
  have H := Lib.hid ((h.below ((Below.refl _ _).alloc (Nat.le_refl _) (tObj i a))).below ((Below.refl _ _).alloc (Nat.le_refl _) (.cells #[] 24)))
  obtain ⟨o, ho⟩ : ∃ o, without l i = o := ⟨_, rfl⟩
  rw [ho] at hol
  replace ho := Lib.hid ho
  clear h
  go_enter Try.func15, Try.ntmps15
  go_wp2_with fail
  go_at_call 19
  (with_reducible refine (ref_without_any H.out hl i).mono ?_)
  rw [ho.out]
  rintro e w1 ⟨A1, c1, rfl, own1, _, hb1⟩
  have hs1 := hb1.size
  have hs1' : w.heap.size + 2 ≤ w1.heap.size := by simpa using hs1
  have x0 : w1.cell? ⟨w.heap.size, 0, none⟩ = some (.int .i64 i) := (hb1.cell (p := ⟨w.heap.size, _, none⟩) (by simp; omega)).trans (by go_simp)
  have x1 : w1.cell? ⟨w.heap.size, 1, none⟩ = some (.int .i64 a) := (hb1.cell (p := ⟨w.heap.size, _, none⟩) (by simp; omega)).trans (by go_simp)
  have B1 : Below w.heap.size w w1 := (((Below.refl _ _).alloc (Nat.le_refl _) _).alloc (by simp) _).trans (hb1.mono (by simp; omega))
  have O1 : OwnT w1 (w.heap.size + 1) (.slice (some ⟨w.heap.size + 1, 0, none⟩) 0 0) [] := by
    have hm : OwnT ((w.alloc (tObj i a)).alloc (.cells #[] 24)) (w.heap.size + 1) (.slice (some ⟨w.heap.size + 1, 0, none⟩) 0 0) [] := by
      have := own_made (w.alloc (tObj i a))
      simpa using this
    exact hm.below hb1
  have hA1 : ∀ b o, A1 = some ⟨b, o, none⟩ → b ≠ w.heap.size + 1 := fun b o e => by
    have := (own1.lt b (by rw [e]; rfl)).1
    simp at this; omega
  have R1 := Lib.hid (own_row own1).sl
  replace O1 := Lib.hid O1
  replace hA1 := Lib.hid hA1
  clear hb1 own1 hs1 H
  go_wp2_with fail
  go_loopw [5, 6, 15] (fun v dn k0 wr => ∃ k : Nat, k ≤ o.length ∧ k0 = .int .i64 k ∧ dn = .bool (anyA ⟨i, a⟩ (o.take k)) ∧ ArmS w w1 v (outT ⟨i, a⟩ (o.take k)) wr) (fun _ _ k0 _ => o.length - (intOf k0).toNat)
  case atStart => exact ⟨0, by omega, rfl, rfl, ⟨O1.out, World.grownBy.refl _ _, fun j hj => .inl (by have : w.heap.size + 1 = j := Option.some.inj hj; omega), B1⟩⟩
  case round =>
    obtain ⟨k, hk, rfl, rfl, hI⟩ := hrel
    replace hI := Lib.hid hI
    have X0 := hI.out.cell (by omega) (by omega) x0
    have X1 := hI.out.cell (by omega) (by omega) x1
    have hlen := out_length ⟨i, a⟩ (o.take k)
    rw [List.length_take] at hlen
    replace hlen : (outT ⟨i, a⟩ (o.take k)).length ≤ 1001 := by omega
    have hwr : w.heap.size + 1 ≤ wr.heap.size := by have := hI.out.gr.size; omega
    by_cases hlk : k < o.length
    case neg =>
      obtain rfl : k = o.length := by omega
      rw [List.take_length] at hlen hI ⊢
      cases hd : anyA ⟨i, a⟩ o
      · have hout : outT ⟨i, a⟩ o = o := by unfold outT; rw [if_neg (by rw [hd]; simp)]
        have hins := Lib.hid (insT_end ⟨i, a⟩ hd)
        rw [hout] at hI hlen
        have own2 := Lib.hid (hI.out.own.below ((Below.refl _ _).alloc (Nat.le_refl _) (tObj i a)))
        have hn1 : Hid ((o.map T.cells).length + (([⟨i, a⟩] : List T).map T.cells).length ≤ 1000000) := Lib.hid (by rw [flatT_length, flatT_length]; simp; omega)
        have hB2 : Hid (w.heap.size + 1 ≤ (wr.alloc (tObj i a)).heap.size) := Lib.hid (by simp; omega)
        have hsl := Lib.hid (sl_lit wr i a _ rfl)
        clear hd hout
        go_wp2_with (at_builtin; (refine wpList_append_sl rfl (.tmp 37) (.tmp 39) 22 rfl elT (by rfl) own2.out (by rfl) (by rfl) hsl.out (whole [⟨i, a⟩]) (fun h => by cases h) hn1.out hB2.out ?_); intro v' w2 own3 grow3 hor3; rw [← List.map_append] at own3; replace own3 := Lib.hid own3; replace hor3 := Lib.hid hor3)
        have hst := (hI.out.alloc ((Below.refl _ _).alloc (Nat.le_refl _) (tObj i a))).step own3.out grow3 hor3.out
        go_ret
        rw [ho.out, hins.out]
        exact retT (hst.own.base (by omega)) hst.bel
      · have hout : outT ⟨i, a⟩ o = insT ⟨i, a⟩ o := by unfold outT; rw [if_pos hd]
        rw [hout] at hI
        clear hd hout hlen
        go_wp2_with fail
        go_ret
        rw [ho.out]
        exact retT (hI.out.own.base (by omega)) hI.out.bel
    obtain ⟨y, hy⟩ : ∃ y, o[k]? = some y := ⟨_, List.getElem?_eq_getElem hlk⟩
    obtain ⟨b, f, rfl, hbw, y0, y1⟩ := SlT.at_ R1.out hy
    have hbn := hA1.out b f rfl
    replace y0 := hI.out.cell hbw hbn y0
    replace y1 := hI.out.cell hbw hbn y1
    have hbr : b < wr.heap.size := Nat.lt_of_lt_of_le hbw hI.out.gr.size
    have hA1' : Below wr.heap.size wr (wr.alloc (tObj y.id y.due)) := (Below.refl _ _).alloc (Nat.le_refl _) _
    cases hd : anyA ⟨i, a⟩ (o.take k)
    case true =>
      obtain ⟨h1, h2⟩ := out_done hy hd
      have e1 := Lib.hid h1
      have e2 := Lib.hid h2
      have hI2 := Lib.hid ((hI.out.alloc hA1').alloc ((Below.refl _ _).alloc (Nat.le_refl _) (tObj y.id y.due)))
      have own2 := Lib.hid hI2.out.own
      have hn1 : Hid (((outT ⟨i, a⟩ (o.take k)).map T.cells).length + ([y].map T.cells).length ≤ 1000000) := Lib.hid (by rw [flatT_length, flatT_length]; simp; omega)
      have hB2 : Hid (w.heap.size + 1 ≤ ((wr.alloc (tObj y.id y.due)).alloc (tObj y.id y.due)).heap.size) := Lib.hid (by simp; omega)
      have hsl := Lib.hid (sl_lit (wr.alloc (tObj y.id y.due)) y.id y.due (wr.heap.size + 1) (by simp))
      clear hy h1 h2 X0 X1
      go_wp2_with (at_builtin; (refine wpList_append_sl rfl (.tmp 30) (.tmp 32) 22 rfl elT (by rfl) own2.out (by rfl) (by rfl) hsl.out (whole [y]) (fun h => by cases h) hn1.out hB2.out ?_); intro v' w2 own3 grow3 hor3; rw [← List.map_append] at own3; replace own3 := Lib.hid own3; replace hor3 := Lib.hid hor3)
      have hst := Lib.hid (hI2.out.step own3.out grow3 hor3.out)
      clear own3 hor3 grow3
      go_roundw
      case rel => exact ⟨k + 1, by omega, by go_num, by rw [e2.out], by rw [e1.out]; exact hst.out⟩
      case measure => simp [intOf]; omega
    case false =>
      have hzw : w.heap.size < wr.heap.size := by omega
      have hbA : Below wr.heap.size wr (wr.alloc (tObj y.id y.due)) := (Below.refl _ _).alloc (Nat.le_refl _) _
      have hIA := Lib.hid (hI.out.alloc hbA)
      have hzA : (wr.alloc (tObj y.id y.due)).heap.size = wr.heap.size + 1 := by simp
      have p0 : (wr.alloc (tObj y.id y.due)).cell? ⟨wr.heap.size, 0, none⟩ = some (.int .i64 y.id) := by go_simp
      have p1 : (wr.alloc (tObj y.id y.due)).cell? ⟨wr.heap.size, 1, none⟩ = some (.int .i64 y.due) := by go_simp
      have X0a := (hbA.cell (p := ⟨w.heap.size, 0, none⟩) hzw).trans X0
      have X1a := (hbA.cell (p := ⟨w.heap.size, 1, none⟩) hzw).trans X1
      have hvlt : Hid (∀ j, _ → j < wr.heap.size) := Lib.hid fun j hj => (hI.out.own.lt j hj).2
      by_cases ha : aheadP ⟨i, a⟩ y
      · obtain ⟨h1, h2⟩ := out_now hy hd ha
        have e1 := Lib.hid h1
        have e2 := Lib.hid h2
        have hcmp := Lib.hid (show decide (aheadP ⟨i, a⟩ y) = true by simpa using ha)
        clear h1 h2 ha hy
        replace p0 := Lib.hid p0
        replace p1 := Lib.hid p1
        replace hzA := Lib.hid hzA
        clear X0a X1a
        go_wp2_with fail
        go_at_call 29
        (with_reducible refine (ahead_is ⟨i, a⟩ y _ hcmp.out _).mono ?_)
        rintro e w2 ⟨rfl, hb2⟩
        have z0 : w2.cell? ⟨wr.heap.size, 0, none⟩ = some (.int .i64 y.id) := (hb2.cell (p := ⟨wr.heap.size, 0, none⟩) (by rw [hzA.out]; show wr.heap.size < _; omega)).trans p0.out
        have z1 : w2.cell? ⟨wr.heap.size, 1, none⟩ = some (.int .i64 y.due) := (hb2.cell (p := ⟨wr.heap.size, 1, none⟩) (by rw [hzA.out]; show wr.heap.size < _; omega)).trans p1.out
        have hs2 : wr.heap.size + 1 ≤ w2.heap.size := by have := hb2.size; rw [hzA.out] at this; exact this
        have X0b : w2.cell? ⟨w.heap.size, 0, none⟩ = some (.int .i64 i) := (hb2.cell (p := ⟨w.heap.size, 0, none⟩) (by rw [hzA.out]; show w.heap.size < _; omega)).trans ((hbA.cell (p := ⟨w.heap.size, 0, none⟩) hzw).trans X0)
        have X1b : w2.cell? ⟨w.heap.size, 1, none⟩ = some (.int .i64 a) := (hb2.cell (p := ⟨w.heap.size, 1, none⟩) (by rw [hzA.out]; show w.heap.size < _; omega)).trans ((hbA.cell (p := ⟨w.heap.size, 1, none⟩) hzw).trans X1)
        have hI2 := Lib.hid (hIA.out.alloc hb2)
        have hI3 := Lib.hid (hI2.out.alloc ((Below.refl _ _).alloc (Nat.le_refl _) (tObj i a)))
        have own2 := Lib.hid hI3.out.own
        have hn1 : Hid (((outT ⟨i, a⟩ (o.take k)).map T.cells).length + (([⟨i, a⟩] : List T).map T.cells).length ≤ 1000000) := Lib.hid (by rw [flatT_length, flatT_length]; simp; omega)
        have hB2 : Hid (w.heap.size + 1 ≤ (w2.alloc (tObj i a)).heap.size) := Lib.hid (by simp; omega)
        have hsl := Lib.hid (sl_lit w2 i a _ rfl)
        have hn2 : Hid (((outT ⟨i, a⟩ (o.take k) ++ ([⟨i, a⟩] : List T)).map T.cells).length + ([y].map T.cells).length ≤ 1000000) := Lib.hid (by rw [flatT_length, flatT_length, List.length_append]; simp; omega)
        clear X0 X1 p0 p1 hb2 y0 y1
        go_wp2_with (first
          | (at_builtin; (refine wpList_append_sl rfl (.tmp 26) (.tmp 28) 22 rfl elT (by rfl) own2.out (by rfl) (by rfl) hsl.out (whole [⟨i, a⟩]) (fun h => by cases h) hn1.out hB2.out ?_); intro v3 w3 own3 grow3 hor3; rw [← List.map_append] at own3; have hI4 := Lib.hid (hI3.out.step own3 grow3 hor3); have g3 := grow3.size; have hne : ∀ j, (w2.alloc (tObj i a)).cell? ⟨wr.heap.size, j, none⟩ = w2.cell? ⟨wr.heap.size, j, none⟩ := fun j => World.cell?_alloc_lt w2 (tObj i a) ⟨wr.heap.size, j, none⟩ (show wr.heap.size < w2.heap.size by omega); have hno := grow3.block wr.heap.size (by simp; omega) (fun e => by have := hvlt.out _ e.symm; omega); replace z0 := (World.cell?_of_block (a := ⟨wr.heap.size, 0, none⟩) hno).trans ((hne 0).trans z0); replace z1 := (World.cell?_of_block (a := ⟨wr.heap.size, 1, none⟩) hno).trans ((hne 1).trans z1); have hw3 : w.heap.size + 1 ≤ w3.heap.size := (by simp at g3; omega); have hI5 := Lib.hid (hI4.out.alloc ((Below.refl _ _).alloc (Nat.le_refl _) (tObj y.id y.due))); have own4 := Lib.hid hI5.out.own; have hB4 : Hid (w.heap.size + 1 ≤ (w3.alloc (tObj y.id y.due)).heap.size) := Lib.hid (by simp; omega); have hsl4 := Lib.hid (sl_lit w3 y.id y.due _ rfl); clear hne hno own3 grow3 hor3 g3 X0b X1b)
          | (at_builtin; (refine wpList_append_sl rfl (.tmp 30) (.tmp 32) 22 rfl elT (by rfl) own4.out (by rfl) (by rfl) hsl4.out (whole [y]) (fun h => by cases h) hn2.out hB4.out ?_); intro v5 w5 own5 grow5 hor5; rw [← List.map_append] at own5; have hst := Lib.hid (hI5.out.step own5 grow5 hor5); clear own5 grow5 hor5))
        go_roundw
        case rel => exact ⟨k + 1, by omega, by go_num, by rw [e2.out], by rw [e1.out]; exact hst.out⟩
        case measure => simp [intOf]; omega
      · obtain ⟨h1, h2⟩ := out_not hy hd ha
        have e1 := Lib.hid h1
        have e2 := Lib.hid h2
        have hcmp := Lib.hid (show decide (aheadP ⟨i, a⟩ y) = false by simpa using ha)
        clear h1 h2 ha hy
        replace p0 := Lib.hid p0
        replace p1 := Lib.hid p1
        replace hzA := Lib.hid hzA
        clear X0a X1a
        go_wp2_with fail
        go_at_call 29
        (with_reducible refine (ahead_is ⟨i, a⟩ y _ hcmp.out _).mono ?_)
        rintro e w2 ⟨rfl, hb2⟩
        have z0 : w2.cell? ⟨wr.heap.size, 0, none⟩ = some (.int .i64 y.id) := (hb2.cell (p := ⟨wr.heap.size, 0, none⟩) (by rw [hzA.out]; show wr.heap.size < _; omega)).trans p0.out
        have z1 : w2.cell? ⟨wr.heap.size, 1, none⟩ = some (.int .i64 y.due) := (hb2.cell (p := ⟨wr.heap.size, 1, none⟩) (by rw [hzA.out]; show wr.heap.size < _; omega)).trans p1.out
        have hs2 : wr.heap.size + 1 ≤ w2.heap.size := by have := hb2.size; rw [hzA.out] at this; exact this
        have hI2 := Lib.hid (hIA.out.alloc hb2)
        have hI3 := Lib.hid (hI2.out.alloc ((Below.refl _ _).alloc (Nat.le_refl _) (tObj y.id y.due)))
        have own2 := Lib.hid hI3.out.own
        have hn1 : Hid (((outT ⟨i, a⟩ (o.take k)).map T.cells).length + ([y].map T.cells).length ≤ 1000000) := Lib.hid (by rw [flatT_length, flatT_length]; simp; omega)
        have hB2 : Hid (w.heap.size + 1 ≤ (w2.alloc (tObj y.id y.due)).heap.size) := Lib.hid (by simp; omega)
        have hsl := Lib.hid (sl_lit w2 y.id y.due _ rfl)
        clear X0 X1 p0 p1 hb2 y0 y1
        go_wp2_with (at_builtin; (refine wpList_append_sl rfl (.tmp 30) (.tmp 32) 22 rfl elT (by rfl) own2.out (by rfl) (by rfl) hsl.out (whole [y]) (fun h => by cases h) hn1.out hB2.out ?_); intro v5 w5 own5 grow5 hor5; rw [← List.map_append] at own5; have hst := Lib.hid (hI3.out.step own5 grow5 hor5); clear own5 grow5 hor5)
        go_roundw
        case rel => exact ⟨k + 1, by omega, by go_num, by rw [e2.out], by rw [e1.out]; exact hst.out⟩
        case measure => simp [intOf]; omega
end Go.Proofs.Ytdieoecpacplmaa.WheelP
