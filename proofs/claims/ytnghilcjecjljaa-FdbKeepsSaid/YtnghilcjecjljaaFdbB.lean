/-
  Boxes; rows of entries and of buckets as they are read; predicates; slices.IndexFunc, entryOf, isRight, placeOf.
-/
import Derived.Test.YtnghilcjecjljaaFdbA
import Derived.Lib.Walk
namespace Go.Proofs.Ytnghilcjecjljaa.FdbP
open Go.RowKit Go.Sort Go.Proofs.Ytnghilcjecjljaa.SliceP Go.Proofs.Ytnghilcjecjljaa.MacP
set_option linter.unusedVariables false
set_option maxRecDepth 100000

/-- A box, whole. -/
def Bx (w : World) (b : Nat) (T : TypeId) (vals : Array Value) : Prop := w.heap[b]? = some (.cells vals T (0, 0))
section
variable {w w' : World} {b : Nat} {T : TypeId} {vals : Array Value}
theorem Bx.new (w : World) (vals : Array Value) (T : TypeId) {n : Nat} (hn : w.heap.size = n) : Bx (w.alloc (.cells vals T)) n T vals := by subst hn; exact heap_alloc_new w _
theorem Bx.lt (h : Bx w b T vals) : b < w.heap.size := (Array.getElem?_eq_some_iff.1 h).1
theorem Bx.below (h : Bx w b T vals) (hb : Below w.heap.size w w') : Bx w' b T vals := (hb.block b h.lt).trans h
theorem Bx.alloc (h : Bx w b T vals) (o : Obj) : Bx (w.alloc o) b T vals := h.below ((Below.refl _ _).alloc (Nat.le_refl _) _)
theorem Bx.grown {row : Option Nat} (h : Bx w b T vals) (hg : w.grownBy w' row) (hne : some b ≠ row) : Bx w' b T vals := (hg.block b h.lt hne).trans h
theorem Bx.c (h : Bx w b T vals) {i : Nat} {v : Value} (hv : vals[i]? = some v) : w.cell? ⟨b, i, none⟩ = some v := by
  rw [cell_of_row w b i vals T (0, 0) h]; exact hv
theorem Bx.f (h : Bx w b T vals) (i : Nat) : w.frozen? ⟨b, i, none⟩ = false := frozen_of_row w b i vals T h
theorem Bx.set (h : Bx w b T vals) (i : Nat) (v : Value) : Bx (w.setCell ⟨b, i, none⟩ v) b T (vals.setIfInBounds i v) := heap_setCell_same w b i vals T v h
theorem Bx.other (h : Bx w b T vals) {c : Nat} (hc : b ≠ c) (i : Nat) (v : Value) : Bx (w.setCell ⟨c, i, none⟩ v) b T vals := (heap_setCell_other w ⟨c, i, none⟩ b v hc).trans h
end

/-- A row of entries that is read. -/
abbrev SlE (w : World) (A : Option Addr) (l : List E) : Prop := Sl w 4 A (l.map E.cells)
abbrev OwnE (w : World) (B : Nat) (v : Value) (l : List E) : Prop := SliceP.Own w B 57 4 v (l.map E.cells)
theorem elE : ElemT Try.prog 55 57 4 := ElemT.mk' (z := ev 0 0 0 false) (bytes := 32) Try.underlying55 (by kernel_rfl) (by decide) rfl (by decide)
theorem wholeE (l : List E) : Whole 4 (l.map E.cells) := fun cs hc => by
  obtain ⟨x, _, rfl⟩ := List.mem_map.1 hc
  exact ⟨rfl, fun u hu => by simp [E.cells] at hu; rcases hu with rfl | rfl | rfl | rfl <;> rfl⟩
structure RowE (w : World) (A : Option Addr) (n c : Nat) (l : List E) : Prop where
  len : n = l.length
  sl : SlE w A l
  cap : n ≤ c
  nil : A = none → c = 0
theorem RowE.below {w w' : World} {A : Option Addr} {n c : Nat} {l : List E} (h : RowE w A n c l) (hb : Below w.heap.size w w') : RowE w' A n c l := ⟨h.len, Sl.below h.sl hb, h.cap, h.nil⟩
theorem RowE.empty (w : World) : RowE w none 0 0 [] := ⟨rfl, Sl.nil, Nat.le_refl _, fun _ => rfl⟩
theorem RowE.at_ {w : World} {A : Option Addr} {n c : Nat} {l : List E} (h : RowE w A n c l) {k : Nat} {x : E} (hk : l[k]? = some x) : ∃ b o, A = some ⟨b, o, none⟩ ∧ b < w.heap.size ∧
    w.cell? ⟨b, o + k * 4, none⟩ = some (.int .i64 x.mac) ∧ w.cell? ⟨b, o + k * 4 + 1, none⟩ = some (.int .i64 x.port) ∧ w.cell? ⟨b, o + k * 4 + 2, none⟩ = some (.int .i64 x.seen) ∧ w.cell? ⟨b, o + k * 4 + 3, none⟩ = some (.bool x.st) := by
  obtain ⟨b, o, rfl, hb, hx⟩ := Sl.at_ h.sl (k := k) (cs := x.cells) (by rw [List.getElem?_map, hk]; rfl)
  exact ⟨b, o, rfl, hb, hx 0 _ rfl, hx 1 _ rfl, hx 2 _ rfl, hx 3 _ rfl⟩
theorem SlE.take {w : World} {A : Option Addr} {l : List E} (h : SlE w A l) (n : Nat) : SlE w A (l.take n) := by
  have := Sl.take h n
  rw [← List.map_take] at this; exact this
theorem RowE.take {w : World} {A : Option Addr} {n c : Nat} {l : List E} (h : RowE w A n c l) (k : Nat) (hk : k ≤ l.length) : RowE w A k c (l.take k) :=
  ⟨by rw [List.length_take]; omega, SlE.take h.sl k, by have := h.len; have := h.cap; omega, h.nil⟩
theorem own_rowE {w : World} {B : Nat} {A : Option Addr} {n c : Nat} {l : List E} (h : OwnE w B (.slice A n c) l) : RowE w A n c l := by
  obtain ⟨A', c', hv, h1, _, hA⟩ := h.form
  have hsl := h.sl (by decide)
  injection hv with e1 e2 e3
  subst e1; subst e3
  rw [List.length_map] at e2 h1
  refine ⟨e2, hsl, by omega, fun hn => ?_⟩
  rcases hA with ⟨_, _, h0⟩ | ⟨g, h1, _⟩
  · exact h0
  · rw [hn] at h1; cases h1
theorem OwnE.form' {w : World} {B : Nat} {v : Value} {l : List E} (h : OwnE w B v l) : ∃ A c, v = .slice A l.length c := by
  obtain ⟨A, c, rfl, _⟩ := h.form
  exact ⟨A, c, by rw [List.length_map]⟩

/-- A row of buckets that is read. -/
structure TabS (w : World) (A : Option Addr) (n c : Nat) (bs : List (List E)) : Prop where
  len : n = bs.length
  cap : n ≤ c
  nil : A = none → c = 0
  at_ : ∀ k xs, bs[k]? = some xs → ∃ b o A' n' c', A = some ⟨b, o, none⟩ ∧ b < w.heap.size ∧ w.cell? ⟨b, o + k, none⟩ = some (.slice A' n' c') ∧ RowE w A' n' c' xs
theorem TabS.below {w w' : World} {A : Option Addr} {n c : Nat} {bs : List (List E)} (h : TabS w A n c bs) (hb : Below w.heap.size w w') : TabS w' A n c bs :=
  ⟨h.len, h.cap, h.nil, fun k xs hk => by
    obtain ⟨b, o, A', n', c', rfl, hlt, hc, hr⟩ := h.at_ k xs hk
    exact ⟨b, o, A', n', c', rfl, Nat.lt_of_lt_of_le hlt hb.size, (hb.cell (p := ⟨b, _, none⟩) hlt).trans hc, hr.below hb⟩⟩

/-- A predicate over entries, as a function's value. -/
abbrev fE (g : Nat) (cb : Array Value) : Value := .func (.func g) #[] cb
def PredB (g : Nat) (cb : Array Value) (p : E → Bool) (n : Nat) (w : World) : Prop :=
  ∀ W, Below n w W → ∀ x : E, Calls Try.prog g (#[x.val] ++ cb) W fun e W' => e = .returned (.bool (p x)) ∧ Below W.heap.size W W'
theorem PredB.mono {g : Nat} {cb : Array Value} {p : E → Bool} {n : Nat} {w w' : World} (h : PredB g cb p n w) (hb : Below n w w') : PredB g cb p n w' := fun W hW x => h W (hb.trans hW) x
def Enters (g : Nat) : Prop := ∀ args w, (callFunc g args).run Try.prog w = .ok (.enter g args) w

def idxI (l : List E) (p : E → Bool) : Int := if l.any p then (l.findIdx p : Nat) else -1
theorem any_more {l : List E} {k : Nat} {x : E} {p : E → Bool} (h : (l.take k).any p = false) (hx : l[k]? = some x) (hn : p x = false) : (l.take (k + 1)).any p = false := by
  rw [List.take_add_one, hx, List.any_append, h]; simp [hn]
theorem idx_hit {l : List E} {k : Nat} {x : E} {p : E → Bool} (h : (l.take k).any p = false) (hx : l[k]? = some x) (hn : p x = true) : idxI l p = k := by
  have hk : k < l.length := (List.getElem?_eq_some_iff.1 hx).1
  have e : l[k] = x := by rw [List.getElem?_eq_getElem hk] at hx; exact Option.some.inj hx
  unfold idxI
  rw [if_pos (List.any_eq_true.2 ⟨x, List.mem_of_getElem? hx, hn⟩)]
  congr 1
  refine (List.findIdx_eq hk).2 ⟨by rw [e]; exact hn, fun j hj => ?_⟩
  rw [List.any_eq_false] at h
  have := h l[j] (by rw [List.mem_take_iff_getElem]; exact ⟨j, by omega, rfl⟩)
  simpa using this
theorem idx_none {l : List E} {p : E → Bool} (h : (l.take l.length).any p = false) : idxI l p = -1 := by
  rw [List.take_length] at h
  unfold idxI; rw [h]; rfl

set_option maxHeartbeats 2000000 in
theorem index_any (g : Nat) (cb : Array Value) (eg : Enters g) (p : E → Bool) {A : Option Addr} {n c : Nat} {l : List E} {w : World} (hr : RowE w A n c l) (hl : l.length ≤ 1000000) (hp : PredB g cb p w.heap.size w) :
    Calls Try.prog 77 #[.slice A n c, fE g cb] w fun e w' => e = .returned (.int .i64 (idxI l p)) ∧ Below w.heap.size w w' := by
  obtain rfl := hr.len
  have H := Lib.hid hr
  have HP := Lib.hid hp
  unfold Enters at eg
  clear hr hp
  go_enter Try.func77, Try.ntmps77
  go_wp2_with fail
  go_loopw [8] (fun i wr => ∃ k : Nat, k ≤ l.length ∧ i = .int .i64 k ∧ (l.take k).any p = false ∧ Below w.heap.size w wr) (fun i _ => l.length - (intOf i).toNat)
  case atStart => exact ⟨0, by omega, rfl, rfl, Below.refl _ _⟩
  case round =>
    obtain ⟨k, hk, rfl, hno, hb⟩ := hrel
    replace hno := Lib.hid hno
    by_cases hlk : k < l.length
    · obtain ⟨x, hx⟩ : ∃ x, l[k]? = some x := ⟨_, List.getElem?_eq_getElem hlk⟩
      obtain ⟨b, o, rfl, hbw, x0, x1, x2, x3⟩ := RowE.at_ H.out hx
      replace x0 := (hb.cell (p := ⟨b, _, none⟩) hbw).trans x0
      replace x1 := (hb.cell (p := ⟨b, _, none⟩) hbw).trans x1
      replace x2 := (hb.cell (p := ⟨b, _, none⟩) hbw).trans x2
      replace x3 := (hb.cell (p := ⟨b, _, none⟩) hbw).trans x3
      have hs := hb.size
      have hcall := HP.out wr hb x
      replace hx := Lib.hid hx
      cases hh : p x
      all_goals
        rw [hh] at hcall
        replace hh := Lib.hid hh
        replace hcall := Lib.hid hcall
        go_wp2_with fail
        go_at_fn g
        (with_reducible refine hcall.out.mono ?_)
        rintro e w1 ⟨rfl, hb1⟩
        have B1 : Below w.heap.size w w1 := hb.trans (hb1.mono hs)
        clear hb1 x0 x1 x2 x3 hcall
        go_wp2_with fail
      · go_roundw
        case rel => exact ⟨k + 1, by omega, by go_num, any_more hno.out hx.out hh.out, B1⟩
        case measure => simp [intOf]; omega
      · go_ret
        exact ⟨by rw [idx_hit hno.out hx.out hh.out]; rfl, B1⟩
    · obtain rfl : k = l.length := by omega
      go_wp2_with fail
      go_ret
      exact ⟨by rw [idx_none hno.out]; rfl, hb⟩

/-- The entry of an address. -/
def isM (a : Int) (x : E) : Bool := x.mac == a
def findE (l : List E) (a : Int) : Option E := l.find? (isM a)
theorem idx_find_none {l : List E} {a : Int} (h : findE l a = none) : idxI l (isM a) = -1 := by
  unfold idxI
  rw [if_neg]
  rw [List.any_eq_true]
  rintro ⟨x, hx, h1⟩
  have := List.find?_eq_none.1 h x hx
  exact this h1
theorem idx_find_some {l : List E} {a : Int} {x : E} (h : findE l a = some x) : ∃ k : Nat, idxI l (isM a) = k ∧ l[k]? = some x := by
  have ha : l.any (isM a) = true := by
    rw [List.any_eq_true]
    exact ⟨x, List.mem_of_find?_eq_some h, List.find?_some h⟩
  refine ⟨l.findIdx (isM a), by unfold idxI; rw [if_pos ha], ?_⟩
  have := List.find?_eq_some_iff_getElem.1 h
  obtain ⟨_, k, hk, e, hj⟩ := this
  have hf : l.findIdx (isM a) = k := (List.findIdx_eq hk).2 ⟨by rw [e]; assumption, fun j hj' => by simpa using hj j hj'⟩
  rw [hf, List.getElem?_eq_getElem hk, e]

abbrev isOfF (c : Nat) : Value := fE 78 #[.pointer (some ⟨c, 0, none⟩)]
theorem isOf_enters : Enters 78 := enters_of Try.func78 (by kernel_rfl) rfl
set_option maxHeartbeats 400000 in
theorem isOf1_any (m p s : Int) (b : Bool) (a : Int) (c : Nat) (w : World) (hc : w.cell? ⟨c, 0, none⟩ = some (.int .i64 a)) (hlt : c < w.heap.size) :
    Calls Try.prog 78 #[ev m p s b, .pointer (some ⟨c, 0, none⟩)] w fun e w' => e = .returned (.bool (m == a)) ∧ Below w.heap.size w w' := by
  go_enter Try.func78, Try.ntmps78
  go_wp2
  go_ret
  exact ⟨rfl, (Below.refl _ _).alloc (Nat.le_refl _) _⟩
theorem isOf_pred (a : Int) (c n : Nat) (w : World) (hc : w.cell? ⟨c, 0, none⟩ = some (.int .i64 a)) (hlt : c < w.heap.size) (hn : c < n) : PredB 78 #[.pointer (some ⟨c, 0, none⟩)] (isM a) n w := fun W hW x =>
  isOf1_any x.mac x.port x.seen x.st a c W ((hW.cell (p := ⟨c, 0, none⟩) hn).trans hc) (Nat.lt_of_lt_of_le hlt hW.size)
set_option maxHeartbeats 400000 in
theorem isOf_any (a : Int) (w : World) (c : Nat) (hc : w.heap.size = c) : Calls Try.prog 62 #[.int .i64 a] w fun e w' => e = .returned (isOfF c) ∧ Below w.heap.size w w' ∧ w'.heap.size = c + 1 ∧ w'.cell? ⟨c, 0, none⟩ = some (.int .i64 a) := by
  subst hc
  go_enter Try.func62, Try.ntmps62
  go_wp2
  go_ret
  exact ⟨rfl, (Below.refl _ _).alloc (Nat.le_refl _) _, by simp, by go_simp⟩

set_option maxHeartbeats 2000000 in
theorem entryOf_any {A : Option Addr} {n c : Nat} {l : List E} {w : World} (hr : RowE w A n c l) (hl : l.length ≤ 1000000) (a : Int) (o : Option E) (ho : findE l a = o) :
    Calls Try.prog 60 #[.slice A n c, .int .i64 a] w fun e w' => e = .returned (.tuple #[(o.getD zE).val, .bool o.isSome]) ∧ Below w.heap.size w w' := by
  have B0 : Below w.heap.size w (w.alloc (eObj 0 0 0 false)) := (Below.refl _ _).alloc (Nat.le_refl _) _
  have H := Lib.hid (hr.below B0)
  have HO := Lib.hid ho
  have hlen := Lib.hid hr.len
  clear hr ho
  go_enter Try.func60, Try.ntmps60
  go_wp2_with fail
  go_at_call 62
  (with_reducible refine (isOf_any a _ (w.heap.size + 1) (by simp)).mono ?_)
  rintro e w1 ⟨rfl, hb1, hz1, hc1⟩
  have X1 := ((Bx.new w #[.int .i64 0, .int .i64 0, .int .i64 0, .bool false] 57 rfl)).below hb1
  have H1 := Lib.hid (H.out.below hb1)
  have B1 := bt B0 hb1
  have zw : w.heap.size < w1.heap.size := X1.lt
  have HP := Lib.hid (isOf_pred a _ w1.heap.size w1 hc1 (by rw [hz1]; omega) (by rw [hz1]; omega))
  clear hb1 B0 H hc1
  replace X1 := Lib.hid X1
  replace hz1 := Lib.hid hz1
  go_wp2_with fail
  go_at_call 77
  (with_reducible refine (index_any _ _ isOf_enters (isM a) H1.out hl HP.out).mono ?_)
  rintro e w2 ⟨rfl, hb2⟩
  have X2 := X1.out.below hb2
  have H2 := Lib.hid (H1.out.below hb2)
  have B2 := bt B1 hb2
  clear hb2 B1 H1 HP X1 hz1
  have c0 := X2.c (i := 0) rfl
  have c1 := X2.c (i := 1) rfl
  have c2 := X2.c (i := 2) rfl
  have c3 := X2.c (i := 3) rfl
  have f0 := X2.f 0
  have f1 := X2.f 1
  have f2 := X2.f 2
  have f3 := X2.f 3
  replace X2 := Lib.hid X2
  cases o with
  | none =>
    rw [idx_find_none HO.out]
    go_wp2_with fail
    refine bodyPost_ret (v := .tuple #[ev 0 0 0 false, .bool false]) (by simp [results, Try.results60, go_sem, c0, c1, c2, c3]) rfl ⟨rfl, ?_⟩
    repeat (first | with_reducible assumption | refine Below.setCell ?_ (by first | omega | (simp; done) | (simp; omega)) _)
  | some x =>
    obtain ⟨k, hk, hx⟩ := idx_find_some HO.out
    rw [hk]
    have hkl : k < l.length := (List.getElem?_eq_some_iff.1 hx).1
    obtain ⟨b, o, rfl, hbw, x0, x1, x2, x3⟩ := RowE.at_ H2.out hx
    have hkn : (k : Int) < (n : Int) := by have := hlen.out; omega
    clear hk hx
    go_wp2_with fail
    refine bodyPost_ret (v := .tuple #[x.val, .bool true]) (by simp [results, Try.results60, go_sem, c0, c1, c2, c3]) rfl ⟨rfl, ?_⟩
    repeat (first | with_reducible assumption | refine Below.setCell ?_ (by first | omega | (simp; done) | (simp; omega)) _)

set_option maxHeartbeats 1000000 in
theorem placeOf_any {A : Option Addr} {n c : Nat} (s ag a : Int) (w : World) (h0 : 0 ≤ a) (h1 : a < 281474976710656) (hn : numB (n : Int) = true) :
    Calls Try.prog 61 #[tbv (.slice A n c) s ag, .int .i64 a] w fun e w' => e = .returned (.int .i64 (bucketI a n)) ∧ Below w.heap.size w w' := by
  have B0 : Below w.heap.size w (w.alloc (tObj (.slice A n c) s ag)) := (Below.refl _ _).alloc (Nat.le_refl _) _
  have HN := Lib.hid hn
  clear hn
  go_enter Try.func61, Try.ntmps61
  go_wp2_with fail
  go_at_call 70
  (with_reducible refine (bucket_yes a n _ h0 h1 HN.out).mono ?_)
  rintro e w1 ⟨rfl, hb1⟩
  have B1 := bt B0 hb1
  clear hb1 B0
  go_wp2_with fail
  go_ret
  exact ⟨rfl, B1⟩
end Go.Proofs.Ytnghilcjecjljaa.FdbP
