/-
  Contract of vec.Sort: the library's slices.SortFunc over compare.
-/
import Derived.Test.YtanceablbmgblaaVecI
import Derived.Test.YtanceablbmgblaaVecQ
namespace Go.Proofs.Ytanceablbmgblaa.VecP
open Go.RowKit Go.Sort Go.Proofs.Ytanceablbmgblaa.SliceP
set_option linter.unusedVariables false
set_option maxRecDepth 100000

def cmpF (x y : V) : Int := cmpV x.r x.c x.b x.p y.r y.c y.b y.p
theorem ltOf_eq (x y : V) : ltOf cmpF x y = x.bet y := rfl
theorem swo : SWO (ltOf cmpF) where
  irrefl x := betB_self ..
  trans x y z h1 h2 := betB_trans h1 h2
  ntrans x y z h1 h2 := by
    have h1 : betB x.r x.c x.b x.p y.r y.c y.b y.p = false := h1
    have h2 : betB y.r y.c y.b y.p z.r z.c z.b z.p = false := h2
    show betB x.r x.c x.b x.p z.r z.c z.b z.p = false
    rw [betB_false] at *; omega
theorem bet_anti (x y : V) (h1 : ltOf cmpF x y = false) (h2 : ltOf cmpF y x = false) : x = y := by
  have h1 : betB x.r x.c x.b x.p y.r y.c y.b y.p = false := h1
  have h2 : betB y.r y.c y.b y.p x.r x.c x.b x.p = false := h2
  rw [betB_false] at *
  obtain ⟨r, c, b, p⟩ := x
  obtain ⟨r2, c2, b2, p2⟩ := y
  simp only at h1 h2
  have e : r = r2 ∧ c = c2 ∧ b = b2 ∧ p = p2 := by omega
  obtain ⟨rfl, rfl, rfl, rfl⟩ := e; rfl
theorem cmpLays (blk off size : Nat) (w : World) : Go.Proofs.CmpLays Try.prog 21 #[] V.cells 4 cmpF blk off size w :=
  fun m os dk hs x y => (compare_grew x.r x.c x.b x.p y.r y.c y.b y.p _).mono fun _ _ ⟨h1, p, h2⟩ => ⟨h1, p.n, p.os, h2⟩
theorem agg_vec : ∀ w, (isAgg 23).run Try.prog w = .ok true w := fun w => by kernel_rfl
theorem size_vec : ∀ w, (Go.sizeOf 23).run Try.prog w = .ok 4 w := fun w => by kernel_rfl
theorem enters_compare : ∀ args w, (callFunc 21 args).run Try.prog w = .ok (.enter 21 args) w := enters_of Try.func21 (by kernel_rfl) rfl

/-- In order. -/
def msort (l : List V) : List V := l.mergeSort fun x y => !(ltOf cmpF) y x
theorem msort_length (l : List V) : (msort l).length = l.length := by unfold msort; rw [List.length_mergeSort]

theorem below_sortWorldK {α : Type} [Inhabited α] (enc : α → List Value) (k : Nat) (w : World) (blk off n B : Nat) (d : Array α) (os : Array Obj) (h : B ≤ blk) (hB : B ≤ w.heap.size) : Below B w (sortWorldK enc k w blk off n d os) := by
  have h1 : Below B w (putRowK enc k (Go.Sort.ahead w n) blk off d) := by
    refine ⟨rfl, rfl, rfl, by simp [putRowK], fun j hj => ?_⟩
    simp only [putRowK, putRow, mapBlock, heap_ahead]
    rw [Array.getElem?_modify, if_neg (by omega)]
  refine h1.trans (?_ : Below B (putRowK enc k (Go.Sort.ahead w n) blk off d) (Go.Sort.grow (putRowK enc k (Go.Sort.ahead w n) blk off d) os))
  have hs : B ≤ (putRowK enc k (Go.Sort.ahead w n) blk off d).heap.size := Nat.le_trans hB h1.size
  generalize putRowK enc k (Go.Sort.ahead w n) blk off d = W at hs
  exact ⟨rfl, rfl, rfl, by simp [Go.Sort.grow], fun j hj => by
    have hj' : j < W.heap.size := by omega
    simp [Go.Sort.grow, Array.getElem?_append, hj']⟩

theorem sortFunc_any (g cap : Nat) (l : List V) (w : World) (hH : HoldsK V.cells 4 w g 0 l.toArray) (hg : g < w.heap.size) (hl : l.length ≤ 1000000) :
    Calls Try.prog 24 #[.slice (some ⟨g, 0, none⟩) l.length cap, .func (.func 21) #[] #[]] w fun e w' =>
      e = .returned (.tuple #[]) ∧ ∃ n os, w' = sortWorldK V.cells 4 w g 0 n (msort l).toArray os := by
  have h := AnyQ.slices_SortFunc_total Try.sortV 4 agg_vec size_vec V.cells (fun _ => rfl) (by intro x u hu; exact flat_cell [x] u (by rw [flat_one]; exact hu)) cmpF swo 21 #[] g 0 cap l.toArray w enters_compare (cmpLays _ _ _ _) hH hg (by simp; omega) bet_anti
  simp only [List.size_toArray] at h
  exact h

theorem holds_own {w : World} {base g c : Nat} {l : List V} (h : w.ownsRow base 23 4 (.slice (some ⟨g, 0, none⟩) l.length c) l.length (flat l)) : HoldsK V.cells 4 w g 0 l.toArray := by
  intro j hj
  rw [size_flatK] at hj
  simp only [List.size_toArray] at hj
  have hc := h.cellAt j hj
  have hf := h.frozenAt j
  rw [Nat.zero_add]
  refine ⟨?_, hf⟩
  rw [hc]
  have e := get_flatK V.cells 4 l.toArray j (by simpa using hj)
  rw [show id ((flatK V.cells 4 l.toArray)[j]!) = (flatK V.cells 4 l.toArray)[j]! from rfl, e]
  obtain ⟨x, hx⟩ : ∃ x, l[j / 4]? = some x := ⟨_, List.getElem?_eq_getElem (by omega)⟩
  have hcx : (l.map V.cells)[j / 4]? = some x.cells := by rw [List.getElem?_map, hx]; rfl
  obtain ⟨v, hv⟩ : ∃ v, x.cells[j % 4]? = some v := ⟨_, List.getElem?_eq_getElem (by show _ < 4; omega)⟩
  have hfl := getElem?_flatten (l.map V.cells) 4 (j / 4) (j % 4) x.cells v (by intro c hc; obtain ⟨x, _, rfl⟩ := List.mem_map.1 hc; rfl) hcx hv
  rw [show j / 4 * 4 + j % 4 = j by omega] at hfl
  rw [show (flat l)[j]? = some v from hfl]
  have ex : l.toArray[j / 4]! = x := by simp [getElem!_def, hx]
  rw [ex, show x.cells[j % 4]! = v by simp [getElem!_def, hv]]
theorem SlV.of_holds {w : World} {g : Nat} {l : List V} (h : HoldsK V.cells 4 w g 0 l.toArray) (hg : g < w.heap.size) : SlV w (some ⟨g, 0, none⟩) l := fun hn => by
  refine ⟨g, 0, rfl, hg, fun k cs hk j v hj => ?_⟩
  rw [List.getElem?_map] at hk
  obtain ⟨x, hx, rfl⟩ := Option.map_eq_some_iff.1 hk
  have hkl : k < l.length := (List.getElem?_eq_some_iff.1 hx).1
  have hj4 : j < 4 := (List.getElem?_eq_some_iff.1 hj).1
  have := (HoldsK.cell h (i := k) (c := j) (by simpa using hkl) hj4).1
  rw [this, show l.toArray[k]! = x by simp [getElem!_def, hx], show x.cells[j]! = v by simp [getElem!_def, hj]]

set_option maxHeartbeats 1000000 in
theorem sort_bad (A : Option Addr) (cap : Nat) (l : List V) (w : World) (hl : l.length ≤ 1000000) (h : SlV w A l) (hok : l.all V.ok = false) :
    Calls Try.prog 11 #[.slice A l.length cap] w fun e w' => e = .returned (.tuple #[.slice none 0 0, .int .i64 1]) ∧ Below w.heap.size w w' := by
  have H := Lib.hid h
  have HA := Lib.hid hok
  clear h hok
  go_enter Try.func11, Try.ntmps11
  go_wp2_with fail
  go_at_call 23
  (with_reducible refine (areRight_is _ _ _ _ _ (by omega) H.out HA.out).mono ?_)
  rintro e w1 ⟨rfl, hb1⟩
  go_wp2_with fail
  go_ret2
  exact ⟨rfl, hb1⟩

theorem SlV.nil (w : World) (A : Option Addr) : SlV w A [] := fun h => absurd rfl h
theorem areRight_nil (A : Option Addr) (cap : Nat) (w : World) :
    Calls Try.prog 23 #[.slice A 0 cap] w fun e w' => e = .returned (.bool true) ∧ Below w.heap.size w w' :=
  areRight_is A cap [] true w (by simp) (SlV.nil _ _) rfl
theorem sortNone (w : World) : Calls Try.prog 24 #[.slice none 0 0, .func (.func 21) #[] #[]] w fun e w' => e = .returned (.tuple #[]) ∧ w' = w :=
  AnyF.slices_SortFunc_none Try.sortV none 0 _ w

set_option maxHeartbeats 1000000 in
theorem sort_none (A : Option Addr) (cap : Nat) (w : World) :
    Calls Try.prog 11 #[.slice A 0 cap] w fun e w' => e = .returned (.tuple #[.slice none 0 0, .int .i64 0]) ∧ Below w.heap.size w w' := by
  go_enter Try.func11, Try.ntmps11
  go_wp2_with fail
  go_at_call 23
  (with_reducible refine (areRight_nil _ _ _).mono ?_)
  rintro e w1 ⟨rfl, hb1⟩
  cases A
  all_goals
    go_wp2_with fail
    go_at_call 24
    (with_reducible refine (sortNone _).mono ?_)
    rintro e w2 ⟨rfl, rfl⟩
    go_wp2_with fail
    go_ret2
    exact ⟨rfl, hb1⟩

set_option maxHeartbeats 2000000 in
theorem sort_good (A : Option Addr) (cap : Nat) (l : List V) (w : World) (hl : l.length ≤ 1000000) (h0 : 0 < l.length) (hc : l.length ≤ cap) (h : SlV w A l) (hok : l.all V.ok = true) :
    Calls Try.prog 11 #[.slice A l.length cap] w fun e w' => (∃ g c, e = .returned (.tuple #[.slice (some ⟨g, 0, none⟩) (msort l).length c, .int .i64 0]) ∧ SlV w' (some ⟨g, 0, none⟩) (msort l)) ∧ Below w.heap.size w w' := by
  obtain ⟨i0, hi, hz0, hz1, hz2⟩ := info_parts vec_info
  obtain ⟨x, hx⟩ : ∃ x, l[0]? = some x := ⟨_, List.getElem?_eq_getElem h0⟩
  obtain ⟨b, o, rfl, hbw, _, _, _, _⟩ := h.at_ hx
  clear hx
  have H := Lib.hid h
  have HA := Lib.hid hok
  clear h hok
  go_enter Try.func11, Try.ntmps11
  go_wp2_with fail
  go_at_call 23
  (with_reducible refine (areRight_is _ _ _ _ _ (by omega) H.out HA.out).mono ?_)
  rintro e w1 ⟨rfl, hb1⟩
  have H1 := Lib.hid (H.out.below hb1)
  have hs1 := hb1.size
  clear H
  go_wp2_with (at_builtin; (refine wpList_append_own _ rfl (.const (.slice none 0 0)) (.tmp 8) 24 rfl w.heap.size 23 i0 (vv 0 0 0 0) 4 32 Try.underlying24 hi hz0 hz1 hz2 rfl (by decide) (.slice none 0 0) 0 [] rfl (World.ownsRow_nil _ _ _ _) ⟨b, o, none⟩ l.length cap (flat l) rfl (flat_length l) (SlV.flat_at H1.out) (flat_cell _) (by unfold maxLen; omega) (by omega) hs1 ?_; intro v1 wa own_1 grow_1 nil_1; simp only [Nat.zero_add, List.nil_append] at own_1; obtain ⟨g1, c1, rfl, hg1, hg1'⟩ := own_1.form h0; replace own_1 := Lib.hid own_1; have Ba := hb1.grown grow_1 hs1 (by intro k hk; cases hk); clear nil_1 grow_1 H1))
  have hH := Lib.hid (holds_own own_1.out)
  go_at_call 24
  (with_reducible refine (sortFunc_any _ _ _ _ hH.out hg1' hl).mono ?_)
  rintro e w2 ⟨rfl, n, os, hw2⟩
  have hS : SlV w2 (some ⟨g1, 0, none⟩) (msort l) := by
    subst hw2
    exact SlV.of_holds (holdsK_sortWorldK_c _ _ _ _ _ _ _ _ _ hH.out hg1' (by simp [msort_length])) (Nat.lt_of_lt_of_le hg1' (size_sortWorldK_c _ _ _ _ _ _ _ _))
  have hB2 : Below w.heap.size w w2 := by
    subst hw2
    exact Ba.trans (below_sortWorldK _ _ _ _ _ _ _ _ _ hg1 (by omega))
  clear hw2
  have hml := Lib.hid (msort_length l)
  have hS := Lib.hid hS
  go_wp2_with fail
  go_ret2
  exact ⟨⟨g1, c1, by rw [hml.out]; rfl, hS.out⟩, hB2⟩
end Go.Proofs.Ytanceablbmgblaa.VecP
