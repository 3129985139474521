/-
  Contract of wheel.Arm: the library's slices.SortFunc over compare.
-/
import Derived.Test.YtdieoecpacplmaaWheelH
namespace Go.Proofs.Ytdieoecpacplmaa.WheelP
open Go.RowKit Go.Sort Go.Proofs.Ytdieoecpacplmaa.SliceP Go.Proofs.Ytdieoecpacplmaa.MacP
set_option linter.unusedVariables false
set_option maxRecDepth 100000

theorem cmpLays (blk off size : Nat) (w : World) : Go.Proofs.CmpLays Try.prog 25 #[] T.cells 2 cmpT blk off size w :=
  fun m os dk hs x y => (compare_any x y _).mono fun _ _ ⟨h1, p, h2⟩ => ⟨h1, p.n, p.os, h2⟩
theorem agg_t : ∀ w, (isAgg 24).run Try.prog w = .ok true w := fun w => by kernel_rfl
theorem size_t : ∀ w, (Go.sizeOf 24).run Try.prog w = .ok 2 w := fun w => by kernel_rfl
theorem enters_compare : ∀ args w, (callFunc 25 args).run Try.prog w = .ok (.enter 25 args) w := enters_of Try.func25 (by kernel_rfl) rfl
theorem grown_sortWorldK {α : Type} [Inhabited α] (enc : α → List Value) (k : Nat) (w : World) (blk off n : Nat) (d : Array α) (os : Array Obj) : w.grownBy (sortWorldK enc k w blk off n d os) (some blk) := by
  have h1 : w.grownBy (putRowK enc k (Go.Sort.ahead w n) blk off d) (some blk) := by
    refine ⟨rfl, rfl, rfl, by simp [putRowK], fun j hj hne => ?_⟩
    simp only [putRowK, putRow, mapBlock, heap_ahead]
    rw [Array.getElem?_modify, if_neg (fun e => hne (by rw [e]))]
  refine grown_trans h1 (r2 := none) (?_ : (putRowK enc k (Go.Sort.ahead w n) blk off d).grownBy (Go.Sort.grow (putRowK enc k (Go.Sort.ahead w n) blk off d) os) none) (fun j hj => by cases hj)
  generalize putRowK enc k (Go.Sort.ahead w n) blk off d = W
  exact ⟨rfl, rfl, rfl, by simp [Go.Sort.grow], fun j hj _ => by simp [Go.Sort.grow, Array.getElem?_append, hj]⟩
theorem sortFunc_any (g cap : Nat) (l : List T) (w : World) (hH : HoldsK T.cells 2 w g 0 l.toArray) (hg : g < w.heap.size) (hl : l.length ≤ 1000000) :
    Calls Try.prog 24 #[.slice (some ⟨g, 0, none⟩) l.length cap, .func (.func 25) #[] #[]] w fun e w' =>
      e = .returned (.tuple #[]) ∧ ∃ n os, w' = sortWorldK T.cells 2 w g 0 n (msort l).toArray os := by
  have h := AnyQ.slices_SortFunc_total Try.sortV 2 agg_t size_t T.cells (fun _ => rfl) (by intro x u hu; simp [T.cells] at hu; rcases hu with rfl | rfl <;> rfl) cmpT swo 25 #[] g 0 cap l.toArray w enters_compare (cmpLays _ _ _ _) hH hg (by simp; omega) cmp_anti
  simp only [List.size_toArray] at h
  exact h
theorem holds_own {w : World} {B g c : Nat} {l : List T} (h : OwnT w B (.slice (some ⟨g, 0, none⟩) l.length c) l) : HoldsK T.cells 2 w g 0 l.toArray := by
  intro j hj
  rw [size_flatK] at hj
  simp only [List.size_toArray] at hj
  have hr := h.row
  rw [flatT_length] at hr
  have hc := hr.cellAt j hj
  have hf := hr.frozenAt j
  rw [Nat.zero_add]
  refine ⟨?_, hf⟩
  rw [hc]
  have e := get_flatK T.cells 2 l.toArray j (by simpa using hj)
  rw [show id ((flatK T.cells 2 l.toArray)[j]!) = (flatK T.cells 2 l.toArray)[j]! from rfl, e]
  obtain ⟨x, hx⟩ : ∃ x, l[j / 2]? = some x := ⟨_, List.getElem?_eq_getElem (by omega)⟩
  have hcx : (l.map T.cells)[j / 2]? = some x.cells := by rw [List.getElem?_map, hx]; rfl
  obtain ⟨v, hv⟩ : ∃ v, x.cells[j % 2]? = some v := ⟨_, List.getElem?_eq_getElem (by show _ < 2; omega)⟩
  have hfl := getElem?_flatten (l.map T.cells) 2 (j / 2) (j % 2) x.cells v (by intro c hc; obtain ⟨x, _, rfl⟩ := List.mem_map.1 hc; rfl) hcx hv
  rw [show j / 2 * 2 + j % 2 = j by omega] at hfl
  rw [hfl]
  have ex : l.toArray[j / 2]! = x := by simp [getElem!_def, hx]
  rw [ex, show x.cells[j % 2]! = v by simp [getElem!_def, hv]]
theorem SlT.of_holds {w : World} {g : Nat} {l : List T} (h : HoldsK T.cells 2 w g 0 l.toArray) (hg : g < w.heap.size) : SlT w (some ⟨g, 0, none⟩) l := fun hn => by
  refine ⟨g, 0, rfl, hg, fun k cs hk j v hj => ?_⟩
  rw [List.getElem?_map] at hk
  obtain ⟨x, hx, rfl⟩ := Option.map_eq_some_iff.1 hk
  have hkl : k < l.length := (List.getElem?_eq_some_iff.1 hx).1
  have hj4 : j < 2 := (List.getElem?_eq_some_iff.1 hj).1
  have := (HoldsK.cell h (i := k) (c := j) (by simpa using hkl) hj4).1
  rw [this, show l.toArray[k]! = x by simp [getElem!_def, hx], show x.cells[j]! = v by simp [getElem!_def, hj]]
theorem sort_row {B g c n : Nat} {l : List T} {w : World} (hn : n = l.length) (h : OwnT w B (.slice (some ⟨g, 0, none⟩) n c) l) (hl : l.length ≤ 1000000) :
    Calls Try.prog 24 #[.slice (some ⟨g, 0, none⟩) n c, .func (.func 25) #[] #[]] w fun e w' =>
      e = .returned (.tuple #[]) ∧ SlT w' (some ⟨g, 0, none⟩) (msort l) ∧ w.grownBy w' (some g) := by
  subst hn
  have hg : g < w.heap.size := (h.lt g rfl).2
  have hH := holds_own h
  refine (sortFunc_any g c l w hH hg hl).mono ?_
  rintro e w' ⟨rfl, n, os, rfl⟩
  refine ⟨rfl, ?_, grown_sortWorldK _ _ _ _ _ _ _ _⟩
  exact SlT.of_holds (holdsK_sortWorldK_c _ _ _ _ _ _ _ _ _ hH hg (by simp [msort_length])) (Nat.lt_of_lt_of_le hg (size_sortWorldK_c _ _ _ _ _ _ _ _))

abbrev rowObj (v1 v2 v3 : Value) : Obj := .cells #[v1, v2, v3] 22
theorem sl_three {W : World} {A1 A2 A3 : Option Addr} {c1 c2 c3 n : Nat} {b s a : List T} (h1 : SlT W A1 b) (h2 : SlT W A2 s) (h3 : SlT W A3 a) (z1 : A1 = none → c1 = 0) (z2 : A2 = none → c2 = 0) (z3 : A3 = none → c3 = 0) (hn : W.heap.size = n) :
    SlLT (W.alloc (rowObj (.slice A1 b.length c1) (.slice A2 s.length c2) (.slice A3 a.length c3))) (some ⟨n, 0, none⟩) [b, s, a] := fun _ => by
  subst hn
  refine ⟨W.heap.size, 0, rfl, by simp, fun k xs hk => ?_⟩
  match k, hk with
  | 0, hk =>
    obtain rfl : b.map T.cells = xs := by simpa using hk
    exact ⟨A1, c1, by rw [flatT_length]; go_simp, z1, Sl.alloc h1 _⟩
  | 1, hk =>
    obtain rfl : s.map T.cells = xs := by simpa using hk
    exact ⟨A2, c2, by rw [flatT_length]; go_simp, z2, Sl.alloc h2 _⟩
  | 2, hk =>
    obtain rfl : a.map T.cells = xs := by simpa using hk
    exact ⟨A3, c3, by rw [flatT_length]; go_simp, z3, Sl.alloc h3 _⟩
  | k + 3, hk => simp at hk

set_option maxHeartbeats 1000000 in
theorem arm_bad {A : Option Addr} {n c : Nat} {l : List T} {w : World} (h : RowT w A n c l) (hl : l.length ≤ 1000) (i a : Int) (hb : rightB l = false) :
    Calls Try.prog 8 #[.slice A n c, tv i a] w (Ret1 w [] 1) := by
  have H := Lib.hid (h.below ((Below.refl _ _).alloc (Nat.le_refl _) (tObj i a)))
  have HB := Lib.hid hb
  clear h hb
  go_enter Try.func8, Try.ntmps8
  go_wp2_with fail
  go_at_call 13
  (with_reducible refine (right_any H.out hl _ HB.out).mono ?_)
  rintro e w1 ⟨rfl, hb1⟩
  have B1 : Below w.heap.size w w1 := ((Below.refl _ _).alloc (Nat.le_refl _) _).trans (hb1.mono (by simp))
  clear hb1
  go_wp2_with fail
  go_ret2
  exact ret1_nil B1
set_option maxHeartbeats 1000000 in
theorem arm_never {A : Option Addr} {n c : Nat} {l : List T} {w : World} (h : RowT w A n c l) (hl : l.length ≤ 1000) (i a : Int) (hb : rightB l = true) (hx : okB i a = false) :
    Calls Try.prog 8 #[.slice A n c, tv i a] w (Ret1 w [] 1) := by
  have H := Lib.hid (h.below ((Below.refl _ _).alloc (Nat.le_refl _) (tObj i a)))
  have HB := Lib.hid hb
  have HX := Lib.hid hx
  clear h hb hx
  go_enter Try.func8, Try.ntmps8
  go_wp2_with fail
  go_at_call 13
  (with_reducible refine (right_any H.out hl _ HB.out).mono ?_)
  rintro e w1 ⟨rfl, hb1⟩
  have B1 : Below w.heap.size w w1 := ((Below.refl _ _).alloc (Nat.le_refl _) _).trans (hb1.mono (by simp))
  have x0 : w1.cell? ⟨w.heap.size, 0, none⟩ = some (.int .i64 i) := (hb1.cell (p := ⟨w.heap.size, _, none⟩) (by simp)).trans (by go_simp)
  have x1 : w1.cell? ⟨w.heap.size, 1, none⟩ = some (.int .i64 a) := (hb1.cell (p := ⟨w.heap.size, _, none⟩) (by simp)).trans (by go_simp)
  clear hb1
  go_wp2_with fail
  go_at_call 21
  (with_reducible refine (isRight_is i a _ HX.out _).mono ?_)
  rintro e w2 ⟨rfl, hb2⟩
  have B2 : Below w.heap.size w w2 := B1.trans (hb2.mono B1.size)
  clear hb2 x0 x1 B1
  go_wp2_with fail
  go_ret2
  exact ret1_nil B2
set_option maxHeartbeats 2000000 in
theorem arm_full {A : Option Addr} {n c : Nat} {l : List T} {w : World} (h : RowT w A n c l) (hl : l.length ≤ 1000) (i a : Int) (hb : rightB l = true) (hx : okB i a = true) (hf : (without l i).length = 64) :
    Calls Try.prog 8 #[.slice A n c, tv i a] w (Ret1 w [] 5) := by
  have H := Lib.hid (h.below ((Below.refl _ _).alloc (Nat.le_refl _) (tObj i a)))
  have HB := Lib.hid hb
  have HX := Lib.hid hx
  have HF := Lib.hid hf
  clear h hb hx hf
  go_enter Try.func8, Try.ntmps8
  go_wp2_with fail
  go_at_call 13
  (with_reducible refine (right_any H.out hl _ HB.out).mono ?_)
  rintro e w1 ⟨rfl, hb1⟩
  have B1 : Below w.heap.size w w1 := ((Below.refl _ _).alloc (Nat.le_refl _) _).trans (hb1.mono (by simp))
  have x0 : w1.cell? ⟨w.heap.size, 0, none⟩ = some (.int .i64 i) := (hb1.cell (p := ⟨w.heap.size, _, none⟩) (by simp)).trans (by go_simp)
  have x1 : w1.cell? ⟨w.heap.size, 1, none⟩ = some (.int .i64 a) := (hb1.cell (p := ⟨w.heap.size, _, none⟩) (by simp)).trans (by go_simp)
  have H1 := Lib.hid (H.out.below hb1)
  have z1 : w.heap.size < w1.heap.size := by have := hb1.size; simp at this; omega
  clear hb1 H
  go_wp2_with fail
  go_at_call 21
  (with_reducible refine (isRight_is i a _ HX.out _).mono ?_)
  rintro e w2 ⟨rfl, hb2⟩
  have B2 : Below w.heap.size w w2 := B1.trans (hb2.mono B1.size)
  have y0 := (hb2.cell (p := ⟨w.heap.size, _, none⟩) z1).trans x0
  have H2 := Lib.hid (H1.out.below hb2)
  clear hb2 x0 x1 B1 H1
  go_wp2_with fail
  go_at_call 22
  (with_reducible refine (without_row H2.out hl i).mono ?_)
  rintro e w3 ⟨A3, c3, rfl, own3, _, hb3⟩
  rw [HF.out]
  have B3 : Below w.heap.size w w3 := B2.trans (hb3.mono B2.size)
  clear hb3 own3 B2 y0
  go_wp2_with fail
  go_ret2
  exact ret1_nil B3

theorem arm_keep {w4 W5 w6 w7 : World} {B : Nat} {v vs v' : Value} {l : List T} (o : OwnT w4 B v l) (hW : Below w4.heap.size w4 W5) (g6 : W5.grownBy w6 vs.ownBlock) (hor : v'.ownBlock = vs.ownBlock ∨ v'.ownBlock = some W5.heap.size) (d : v.ownBlock = none ∨ v.ownBlock ≠ vs.ownBlock) (g7 : w6.grownBy w7 v'.ownBlock) : OwnT w7 B v l := by
  have o6 : OwnT w6 B v l := (o.below hW).kept g6 d
  refine o6.kept g7 ?_
  rcases hor with h | h
  · rw [h]; exact d
  · rw [h]
    refine .inr fun e => ?_
    have h1 := (o.lt _ e).2
    have := hW.size; omega
theorem dis_symm {v v' : Value} (h : v.ownBlock = none ∨ v.ownBlock ≠ v'.ownBlock) : v'.ownBlock = none ∨ v'.ownBlock ≠ v.ownBlock := by
  rcases h with h | h
  · rw [h]; cases v'.ownBlock <;> simp
  · exact .inr (Ne.symm h)
theorem some_own {w : World} {B : Nat} {v : Value} {l : List T} {x : T} (h : OwnT w B v (l ++ [x])) : ∃ g c, v = .slice (some ⟨g, 0, none⟩) (l.length + 1) c ∧ B ≤ g ∧ g < w.heap.size := by
  obtain ⟨A, c, hv, _, _, hA⟩ := h.form
  rw [flatT_length, List.length_append] at hv
  rcases hA with ⟨_, h0, _⟩ | ⟨g, h1, h2, h3⟩
  · simp at h0
  · exact ⟨g, c, by rw [hv, h1]; rfl, h2, h3⟩
set_option maxHeartbeats 4000000 in
theorem arm_good {A : Option Addr} {n c : Nat} {l : List T} {w : World} (h : RowT w A n c l) (i a : Int) (hg : Good l) (hx : okB i a = true) (hf : (without l i).length ≠ 64) :
    Calls Try.prog 8 #[.slice A n c, tv i a] w (Ret1 w (insT ⟨i, a⟩ (without l i)) 0) := by
  have hl : l.length ≤ 1000 := by have := hg.len; omega
  have hgo : Good (without l i) := hg.sub (without_sub l i)
  have hno : ∀ y ∈ without l i, y.id ≠ i := fun y hy => (without_mem.1 hy).2
  have hat : timeB a = true := ok_time (x := ⟨i, a⟩) hx
  have hol : (without l i).length ≤ 64 := hgo.len
  have H := Lib.hid (h.below ((Below.refl _ _).alloc (Nat.le_refl _) (tObj i a)))
  have HB := Lib.hid (right_of_good hg)
  have HX := Lib.hid hx
  have HF : (((without l i).length : Int) == 64) = false := by simp; omega
  have HF2 : ¬ (without l i).length = 64 := hf
  obtain ⟨o, ho⟩ : ∃ o, without l i = o := ⟨_, rfl⟩
  rw [ho] at hgo hno hol HF HF2 ⊢
  replace ho := Lib.hid ho
  replace hgo := Lib.hid hgo
  replace hno := Lib.hid hno
  replace hat := Lib.hid hat
  clear h hx hf hg
  go_enter Try.func8, Try.ntmps8
  go_wp2_with fail
  go_at_call 13
  (with_reducible refine (right_any H.out hl _ HB.out).mono ?_)
  rintro e w1 ⟨rfl, hb1⟩
  have B1 : Below w.heap.size w w1 := ((Below.refl _ _).alloc (Nat.le_refl _) _).trans (hb1.mono (by simp))
  have x0 : w1.cell? ⟨w.heap.size, 0, none⟩ = some (.int .i64 i) := (hb1.cell (p := ⟨w.heap.size, _, none⟩) (by simp)).trans (by go_simp)
  have x1 : w1.cell? ⟨w.heap.size, 1, none⟩ = some (.int .i64 a) := (hb1.cell (p := ⟨w.heap.size, _, none⟩) (by simp)).trans (by go_simp)
  have H1 := Lib.hid (H.out.below hb1)
  have z1 : w.heap.size < w1.heap.size := by have := hb1.size; simp at this; omega
  clear hb1 H
  go_wp2_with fail
  go_at_call 21
  (with_reducible refine (isRight_is i a _ HX.out _).mono ?_)
  rintro e w2 ⟨rfl, hb2⟩
  have B2 : Below w.heap.size w w2 := B1.trans (hb2.mono B1.size)
  have y0 := (hb2.cell (p := ⟨w.heap.size, _, none⟩) z1).trans x0
  have y1 := (hb2.cell (p := ⟨w.heap.size, _, none⟩) z1).trans x1
  have H2 := Lib.hid (H1.out.below hb2)
  have z2 : w.heap.size < w2.heap.size := Nat.lt_of_lt_of_le z1 hb2.size
  clear hb2 x0 x1 B1 H1 z1
  go_wp2_with fail
  go_at_call 22
  (with_reducible refine (without_row H2.out hl i).mono ?_)
  rw [ho.out]
  rintro e w3 ⟨A3, c3, rfl, own3, _, hb3⟩
  have B3 : Below w.heap.size w w3 := B2.trans (hb3.mono B2.size)
  have u0 := (hb3.cell (p := ⟨w.heap.size, _, none⟩) z2).trans y0
  have u1 := (hb3.cell (p := ⟨w.heap.size, _, none⟩) z2).trans y1
  have z3 : w.heap.size < w3.heap.size := Nat.lt_of_lt_of_le z2 hb3.size
  have R3 := Lib.hid (own_row own3)
  clear hb3 own3 B2 y0 y1 H2 z2
  go_wp2_with fail
  go_at_call 23
  (with_reducible refine (split_row R3.out a hgo.out hat.out).mono ?_)
  rintro e w4 ⟨b, s, r, A4, c4, A5, c5, A6, c6, rfl, hE, o1, o2, o3, d12, d13, d23, hb4⟩
  have B4 : Below w.heap.size w w4 := B3.trans (hb4.mono B3.size)
  have v0 := (hb4.cell (p := ⟨w.heap.size, _, none⟩) z3).trans u0
  have v1 := (hb4.cell (p := ⟨w.heap.size, _, none⟩) z3).trans u1
  have z4 : w.heap.size < w4.heap.size := Nat.lt_of_lt_of_le z3 hb4.size
  have z34 : w3.heap.size ≤ w4.heap.size := hb4.size
  have hlist := Lib.hid (arm_list (x := ⟨i, a⟩) hE hgo.out.pw hno.out)
  have hlen : b.length + s.length + r.length ≤ 64 := by
    have := congrArg List.length hE.all
    rw [List.length_append, List.length_append] at this; omega
  clear hb4 u0 u1 B3 R3 hE
  have z35 : w.heap.size < w3.heap.size := z3
  obtain ⟨W5, hW5⟩ : ∃ W5, W5 = w4.alloc (tObj i a) := ⟨_, rfl⟩
  have g45 : Below w4.heap.size w4 W5 := by rw [hW5]; exact (Below.refl _ _).alloc (Nat.le_refl _) _
  have o2' := Lib.hid (o2.below g45)
  have hsx := Lib.hid (show SlT W5 (some ⟨w4.heap.size, 0, none⟩) [⟨i, a⟩] by rw [hW5]; exact sl_lit w4 i a _ rfl)
  have hn1 : Hid ((s.map T.cells).length + (([⟨i, a⟩] : List T).map T.cells).length ≤ 1000000) := Lib.hid (by rw [flatT_length, flatT_length]; simp; omega)
  have hB5 : Hid (w3.heap.size ≤ W5.heap.size) := Lib.hid (Nat.le_trans z34 g45.size)
  rw [hW5] at o2' hsx hB5
  replace o1 := Lib.hid o1
  replace o2 := Lib.hid o2
  replace o3 := Lib.hid o3
  replace d12 := Lib.hid d12
  replace d23 := Lib.hid d23
  replace hlen := Lib.hid hlen
  clear d13 hW5 g45
  go_wp2_with (at_builtin; (refine wpList_append_sl rfl (.tmp 33) (.tmp 35) 22 rfl elT (by rfl) o2'.out (by rfl) (by rfl) hsx.out (whole [⟨i, a⟩]) (fun h => by cases h) hn1.out hB5.out ?_); intro v' w6 own6 grow6 hor6; rw [← List.map_append] at own6; obtain ⟨g, c6', hv', hg1, hg2⟩ := some_own own6; replace own6 := Lib.hid own6; replace grow6 := Lib.hid grow6; replace hor6 := Lib.hid hor6; replace hv' := Lib.hid hv')
  have own6' := own6.out
  rw [hv'.out] at own6'
  have hor6' := hor6.out
  rw [hv'.out] at hor6' ⊢
  replace own6' := Lib.hid own6'
  replace hor6' := Lib.hid hor6'
  have hsn : s.length + 1 = (s ++ [(⟨i, a⟩ : T)]).length := by simp
  have hsm : (s ++ [(⟨i, a⟩ : T)]).length ≤ 1000000 := by have := hlen.out; simp; omega
  replace hsn := Lib.hid hsn
  replace hsm := Lib.hid hsm
  go_at_call 24
  (with_reducible refine (sort_row hsn.out own6'.out hsm.out).mono ?_)
  rintro e w7 ⟨rfl, hS7, g7⟩
  have g45 : Below w4.heap.size w4 (w4.alloc (tObj i a)) := (Below.refl _ _).alloc (Nat.le_refl _) _
  have ob := arm_keep (v' := .slice (some ⟨g, 0, none⟩) (s.length + 1) c6') o1.out g45 grow6.out hor6'.out d12.out g7
  have orr := arm_keep (v' := .slice (some ⟨g, 0, none⟩) (s.length + 1) c6') o3.out g45 grow6.out hor6'.out (dis_symm d23.out) g7
  obtain ⟨ms, hms⟩ : ∃ ms, msort (s ++ [⟨i, a⟩]) = ms := ⟨_, rfl⟩
  have hml : ms.length = s.length + 1 := by rw [← hms, msort_length]; simp
  rw [hms] at hS7
  have hlist' := hlist.out
  rw [hms] at hlist'
  have B5 : Below w.heap.size w (w4.alloc (tObj i a)) := B4.alloc B4.size _
  have B6 : Below w.heap.size w w6 := B5.grown grow6.out B5.size (fun k hk => Nat.le_trans (Nat.le_of_lt z35) (o2.out.lt k hk).1)
  have B7 : Below w.heap.size w w7 := B6.grown g7 B6.size (fun k hk => by have : g = k := Option.some.inj hk; omega)
  have hsl3 := sl_three (n := w7.heap.size) (own_row ob).sl hS7 (own_row orr).sl (own_row ob).nil (c2 := c6') (fun h => by cases h) (own_row orr).nil rfl
  rw [hml] at hsl3
  have hX3 : insT ⟨i, a⟩ o = [b, ms, r].flatten := by rw [← hlist']; simp
  have hX4 : (insT ⟨i, a⟩ o).length ≤ 1000 := by rw [insT_length]; omega
  replace hsl3 := Lib.hid hsl3
  replace hms := Lib.hid hms
  replace hlist' := Lib.hid hlist'
  replace hml := Lib.hid hml
  obtain ⟨q, hq⟩ : ∃ q, insT ⟨i, a⟩ o = q := ⟨_, rfl⟩
  rw [hq] at hX3 hX4
  replace hq := Lib.hid hq
  replace hX3 := Lib.hid hX3
  replace hX4 := Lib.hid hX4
  clear hlist hlist' own6 own6' hor6 hor6' grow6 g7 ob orr o1 o2 o3 d12 d23 hv' hS7 B5 B6
  go_wp2_with fail
  go_at_call 26
  (with_reducible refine (concat_is _ 3 3 [b, ms, r] q _ rfl hX3.out (by simp) hX4.out hsl3.out).mono ?_)
  rintro e w8 ⟨A8, c8, rfl, own8, _, hb8⟩
  have B7a : Below w.heap.size w (w7.alloc (rowObj (.slice A4 b.length c4) (.slice (some ⟨g, 0, none⟩) (s.length + 1) c6') (.slice A6 r.length c6))) := B7.alloc B7.size _
  have B8 : Below w.heap.size w w8 := B7a.trans (hb8.mono B7a.size)
  have O8 := Lib.hid (own8.base B7a.size)
  clear hb8 B7a own8 B7
  go_wp2_with fail
  go_ret2
  refine ⟨A8, c8, ?_, ?_, B8⟩
  · rw [hq.out]; rfl
  · rw [hq.out]; exact O8.out
end Go.Proofs.Ytdieoecpacplmaa.WheelP
