/-
  fdb.put.
-/
import Derived.Test.YtnghilcjecjljaaFdbM
import Derived.Deep.CutRange
namespace Go.Proofs.Ytnghilcjecjljaa.FdbP
open Go.RowKit Go.Sort Go.Proofs.Ytnghilcjecjljaa.SliceP Go.Proofs.Ytnghilcjecjljaa.MacP
set_option linter.unusedVariables false
set_option maxRecDepth 100000

theorem Bx.ne {w : World} {b c : Nat} {T U : TypeId} {u v : Array Value} (h : Bx w b T u) (k : Bx w c U v) (hn : T ≠ U) : b ≠ c := fun e => by
  subst e
  have := h.symm.trans k
  simp only [Option.some.injEq, Obj.cells.injEq] at this
  exact hn this.2.1
theorem Bx.neBlk {w : World} {b c : Nat} {u : Array Value} {l : List E} (h : Bx w b TT u) (k : BlkE w c l) : b ≠ c := Bx.ne h (show Bx w c ET _ from k) (by decide)
theorem OT.box {w : World} {B g b : Nat} {ps : List PB} {tl : List Value} {u : Array Value} (h : OT w B g ps tl) (hb : Bx w b TT u) (i : Nat) (v : Value) : OT (w.setCell ⟨b, i, none⟩ v) B g ps tl :=
  ⟨h.ge, h.outer.other (Ne.symm (Bx.ne hb h.outer (by decide))) i v, h.nd, fun p hp => (h.each p hp).grown (setCell_grown _ _ _ _) (by have := Bx.neBlk hb (h.each p hp).blk; simp; omega)⟩
theorem OT.box3 {w : World} {B g b : Nat} {ps : List PB} {tl : List Value} {u : Array Value} (h : OT w B g ps tl) (hb : Bx w b TT u) (v0 v1 v2 : Value) : OT (((w.setCell ⟨b, 0, none⟩ v0).setCell ⟨b, 1, none⟩ v1).setCell ⟨b, 2, none⟩ v2) B g ps tl :=
  ((h.box hb 0 v0).box (hb.set 0 v0) 1 v1).box ((hb.set 0 v0).set 1 v1) 2 v2
theorem Bx.three {w : World} {b : Nat} {T : TypeId} {v0 v1 v2 u0 u1 u2 : Value} (h : Bx w b T #[v0, v1, v2]) : Bx (((w.setCell ⟨b, 0, none⟩ u0).setCell ⟨b, 1, none⟩ u1).setCell ⟨b, 2, none⟩ u2) b T #[u0, u1, u2] := ((h.set 0 u0).set 1 u1).set 2 u2
theorem below3 {n b : Nat} {w0 w : World} (h : Below n w0 w) (hb : n ≤ b) (v0 v1 v2 : Value) : Below n w0 (((w.setCell ⟨b, 0, none⟩ v0).setCell ⟨b, 1, none⟩ v1).setCell ⟨b, 2, none⟩ v2) := ((h.setCell hb _).setCell hb _).setCell hb _

/-- An entry is put: nothing, if it does not fit. -/
def putO (bs : List (List E)) (s : Int) (x : E) : Option (List (List E)) :=
  let k := (bucketI x.mac bs.length).toNat
  let b1 := bs.map (keepL (isM x.mac))
  if (((b1.getD k []).length : Int) == s) = true then (lastO (b1.getD k [])).map fun y => (b1.map (keepL (isE y))).set k (x :: (b1.map (keepL (isE y))).getD k [])
  else some (b1.set k (x :: b1.getD k []))
def PutR (w : World) (bs : List (List E)) (s ag : Int) (x : E) (e : Ending) (w' : World) : Prop :=
  ∃ A n c, e = .returned (.tuple #[tbv (.slice A n c) s ag, .bool (putO bs s x).isSome]) ∧ TabH w.heap.size w' A n c ((putO bs s x).getD bs) ∧ Below w.heap.size w w'
structure PutW (w0 : World) (b7 N : Nat) (s ag : Int) (bsX : List (List E)) (wx : World) : Prop where
  bel : Below w0.heap.size w0 wx
  ge : w0.heap.size ≤ b7
  box : ∃ g ps, Bx wx b7 TT #[.slice (some ⟨g, 0, none⟩) N N, .int .i64 s, .int .i64 ag] ∧ OT wx w0.heap.size g ps [] ∧ ps.map PB.row = bsX ∧ ps.length = N
/-- What region 2's operations are worth. -/
def spP (TV : Value) (s ag a : Int) (bs1 : List (List E)) (eb B : Nat) (i : Nat) (v : Value) (W : World) : Prop := match i with
  | 0 => v = TV
  | 1 => v = .pointer (some ⟨eb, 0, none⟩)
  | 2 => v = .int .i64 a
  | 3 => ∃ c, v = isOfF c ∧ c < W.heap.size ∧ W.cell? ⟨c, 0, none⟩ = some (.int .i64 a)
  | 4 => ∃ g ps, v = tbv (.slice (some ⟨g, 0, none⟩) bs1.length bs1.length) s ag ∧ OT W B g ps [] ∧ ps.map PB.row = bs1
  | 5 => ∃ b, v = .pointer (some ⟨b, 0, none⟩) ∧ B ≤ b ∧ Bx W b TT #[.slice none 0 0, .int .i64 0, .int .i64 0]
  | _ => True
theorem spP_mono {TV : Value} {s ag a : Int} {bs1 : List (List E)} {eb B : Nat} (i : Nat) (v : Value) (w w' : World) (h : spP TV s ag a bs1 eb B i v w) (hb : Below w.heap.size w w') : spP TV s ag a bs1 eb B i v w' := by
  match i with
  | 0 => exact h
  | 1 => exact h
  | 2 => exact h
  | 3 =>
    obtain ⟨c, h1, h2, h3⟩ := h
    exact ⟨c, h1, Nat.lt_of_lt_of_le h2 hb.size, (hb.cell (p := ⟨c, 0, none⟩) h2).trans h3⟩
  | 4 =>
    obtain ⟨g, ps, h1, h2, h3⟩ := h
    exact ⟨g, ps, h1, h2.below hb, h3⟩
  | 5 =>
    obtain ⟨b, h1, h2, h3⟩ := h
    exact ⟨b, h1, h2, h3.below hb⟩
  | n + 6 => exact trivial
def putX (fb : Bool) (o : Option E) (bs1 : List (List E)) : List (List E) := match fb, o with
  | true, some y => bs1.map (keepL (isE y))
  | _, _ => bs1
structure PutM (w0 : World) (b7 N : Nat) (s ag : Int) (fb : Bool) (o : Option E) (bs1 : List (List E)) (wx : World) : Prop where
  w : PutW w0 b7 N s ag (putX fb o bs1) wx
  some_ : fb = true → o.isSome = true
theorem PutW.below {w0 wx wy : World} {b7 N : Nat} {s ag : Int} {bsX : List (List E)} (h : PutW w0 b7 N s ag bsX wx) (hb : Below wx.heap.size wx wy) : PutW w0 b7 N s ag bsX wy := by
  obtain ⟨g, ps, h1, h2, h3, h4⟩ := h.box
  exact ⟨bt h.bel hb, h.ge, g, ps, h1.below hb, h2.below hb, h3, h4⟩
theorem putO_none {bs bs1 : List (List E)} {s : Int} {x : E} {k : Nat} {l : List E} (hk : bucketI x.mac bs.length = (k : Int)) (h1 : bs1 = bs.map (keepL (isM x.mac))) (hl : bs1[k]? = some l) (hs : ((l.length : Int) == s) = true) (ho : lastO l = none) : putO bs s x = none := by
  unfold putO
  simp only [hk, Int.toNat_natCast, ← h1]
  rw [List.getD_eq_getElem?_getD, hl, Option.getD_some, if_pos hs, ho]; rfl
theorem putO_some {bs bs1 : List (List E)} {s : Int} {x : E} {k : Nat} {l : List E} {fb : Bool} (hk : bucketI x.mac bs.length = (k : Int)) (h1 : bs1 = bs.map (keepL (isM x.mac))) (hl : bs1[k]? = some l) (hs : ((l.length : Int) == s) = fb) (ho : fb = true → (lastO l).isSome = true) :
    putO bs s x = some ((putX fb (lastO l) bs1).set k (x :: (putX fb (lastO l) bs1).getD k [])) := by
  unfold putO
  simp only [hk, Int.toNat_natCast, ← h1]
  rw [List.getD_eq_getElem?_getD, hl, Option.getD_some]
  cases fb with
  | false =>
    rw [if_neg (by rw [hs]; simp)]
    unfold putX
    rw [List.getD_eq_getElem?_getD, hl]; rfl
  | true =>
    rw [if_pos hs]
    cases h : lastO l with
    | none => have := ho rfl; rw [h] at this; cases this
    | some y => rfl
/-- What region 8's operations are worth. -/
def spQ (b7 g k N B : Nat) (x : E) (q : PB) (i : Nat) (v : Value) (W : World) : Prop := match i with
  | 0 => v = .pointer (some ⟨b7, 0, none⟩)
  | 1 => v = .slice (some ⟨g, 0, none⟩) N N
  | 2 => v = .int .i64 k
  | 3 => v = .pointer (some ⟨b7, 0, none⟩)
  | 4 => v = .slice (some ⟨g, 0, none⟩) N N
  | 5 => v = .int .i64 k
  | 6 => v = .pointer (some ⟨g, k, none⟩)
  | 7 => v = .slice (some ⟨q.blk, 0, none⟩) q.n q.ys.length
  | 8 => v = x.val
  | 9 => ∃ vb, v = .slice (some ⟨vb, 0, none⟩) 1 1 ∧ B ≤ vb ∧ BlkE W vb [x]
  | 10 => ∃ h' c', v = .slice (some ⟨h', 0, none⟩) (x :: q.row).length c' ∧ (RowE W (some ⟨h', 0, none⟩) (x :: q.row).length c' (x :: q.row) ∧ ∃ cs, W.heap[h']? = some (.cells cs ET (0, 0))) ∧ (h' = q.blk ∨ B ≤ h')
  | 11 => v = .pointer (some ⟨g, k, none⟩)
  | _ => True
theorem spQ_mono {b7 g k N B : Nat} {x : E} {q : PB} (i : Nat) (v : Value) (w w' : World) (h : spQ b7 g k N B x q i v w) (hb : Below w.heap.size w w') : spQ b7 g k N B x q i v w' := by
  match i with
  | 0 | 1 | 2 | 3 | 4 | 5 | 6 | 7 | 8 | 11 => exact h
  | 9 =>
    obtain ⟨vb, h1, h2, h3⟩ := h
    exact ⟨vb, h1, h2, Blk.below h3 hb⟩
  | 10 =>
    obtain ⟨h', c', h1, ⟨h2, cs, h4⟩, h3⟩ := h
    exact ⟨h', c', h1, ⟨h2.below hb, cs, (hb.block h' (Array.getElem?_eq_some_iff.1 h4).1).trans h4⟩, h3⟩
  | n + 12 => exact trivial
theorem spQ_monoM {b7 g k N B : Nat} {x : E} {q : PB} (hq : q.blk < B) (i : Nat) (v : Value) (w w' : World) (hi : i ≠ 10) (h : spQ b7 g k N B x q i v w) (hb : w.grownBy w' (some q.blk)) : spQ b7 g k N B x q i v w' := by
  match i with
  | 0 | 1 | 2 | 3 | 4 | 5 | 6 | 7 | 8 | 11 => exact h
  | 9 =>
    obtain ⟨vb, h1, h2, h3⟩ := h
    exact ⟨vb, h1, h2, Blk.grown h3 hb (by simp; omega)⟩
  | 10 => exact absurd rfl hi
  | n + 12 => exact trivial
theorem keepL_sub (p : E → Bool) (l : List E) : (keepL p l).Sublist l := List.filter_sublist
theorem right_mono {bs : List (List E)} {s ag : Int} {k : Nat} {l : List E} (h : rightT bs s ag = true) (hk : bs[k]? = some l) : Mono l := by
  have h2 := (right_at h hk).2
  refine ⟨?_, fun x hx => ?_⟩
  · rw [List.nodup_iff_pairwise_ne, List.pairwise_iff_getElem]
    intro i j hi hj hij e
    rw [List.length_map] at hi hj
    have hj2 := h2 j l[j] (List.getElem?_eq_getElem hj)
    have hn := List.find?_eq_none.1 hj2.1 l[i] (by rw [List.mem_take_iff_getElem]; exact ⟨i, by omega, rfl⟩)
    unfold isM at hn
    simp at e
    simp [e] at hn
  · obtain ⟨i, hi⟩ := List.mem_iff_getElem?.1 hx
    exact (rightE_mac (h2 i x hi).2.1).1
theorem Mono.sub {l m : List E} (h : Mono l) (hs : m.Sublist l) : Mono m := ⟨h.1.sublist (hs.map _), fun x hx => h.2 x (hs.mem hx)⟩
/-- The bucket is another one: what is read of it. -/
theorem OT.put {w w3 : World} {B g k h' n' c' N : Nat} {ps : List PB} {p : PB} {l : List E} (h : OT w B g ps []) (hk : ps[k]? = some p) (hg : w.grownBy w3 (some p.blk)) (hr : RowE w3 (some ⟨h', 0, none⟩) n' c' l) (hty : ∃ cs, w3.heap[h']? = some (.cells cs ET (0, 0))) (hn : n' ≠ 0) (hh : h' = p.blk ∨ w.heap.size ≤ h') (hN : N = ps.length) :
    TabH B (w3.setCell ⟨g, k, none⟩ (.slice (some ⟨h', 0, none⟩) n' c')) (some ⟨g, 0, none⟩) N N ((ps.map PB.row).set k l) := fun w9 h9 => by
  subst hN
  have hkl : k < ps.length := (List.getElem?_eq_some_iff.1 hk).1
  have hpm := List.mem_of_getElem? hk
  have hpo := h.each p hpm
  have hgl := h.outer.lt
  have hgw : Bx w3 g 55 (ps.map PB.v ++ []).toArray := h.outer.grown hg (by have := hpo.ne; simp; omega)
  have hg4 := hgw.set k (.slice (some ⟨h', 0, none⟩) n' c')
  have hl0 : l ≠ [] := fun e => by subst e; exact hn hr.len
  refine ⟨by simp, Nat.le_refl _, (fun e => by cases e), fun j xs hj => ?_⟩
  rw [List.getElem?_set] at hj
  have hne' : g ≠ h' := by
    rcases hh with rfl | hh
    · exact Ne.symm hpo.ne
    · omega
  split at hj
  · rename_i hkj
    subst hkj
    rw [if_pos (by simpa using hkl)] at hj
    obtain rfl := Option.some.inj hj
    refine ⟨g, 0, some ⟨h', 0, none⟩, n', c', rfl, Nat.lt_of_lt_of_le (by simpa using hgw.lt) h9.1, ?_, ?_⟩
    · refine (h9.cell h.ge hg4 (by decide)).trans (hg4.c ?_)
      rw [Nat.zero_add, List.setIfInBounds_toArray, List.getElem?_toArray, List.getElem?_set, if_pos rfl, if_pos (by simpa using hkl)]
    · refine RowE.hi (w := w3.setCell ⟨g, k, none⟩ (.slice (some ⟨h', 0, none⟩) n' c')) (B := B) ⟨hr.len, fun hne => ?_, hr.cap, hr.nil⟩ (fun b o e => by
        have e' : h' = b := by simpa using congrArg (fun z => z.map Addr.block) e
        subst e'
        obtain ⟨cs, hcs⟩ := hty
        have := hpo.ge
        have := h.ge
        exact ⟨by omega, cs, (heap_setCell_other _ _ h' _ (show h' ≠ g by omega)).trans hcs⟩) h9
      obtain ⟨b, o, e, hb, hx⟩ := hr.sl hne
      obtain ⟨rfl, rfl⟩ : h' = b ∧ 0 = o := by simpa using e
      refine ⟨h', 0, rfl, by simpa using hb, fun i cs hi j v hv => ?_⟩
      exact (setCell_grown w3 g k _).cell (a := ⟨h', _, none⟩) (hx i cs hi j v hv) (by simp; omega)
  · rename_i hkj
    rw [List.getElem?_map] at hj
    obtain ⟨q, hq, rfl⟩ := Option.map_eq_some_iff.1 hj
    have hqo := h.each q (List.mem_of_getElem? hq)
    have hjl : j < ps.length := (List.getElem?_eq_some_iff.1 hq).1
    have hqp : q.blk ≠ p.blk := by
      have hnd := h.nd
      rw [List.nodup_iff_pairwise_ne, List.pairwise_iff_getElem] at hnd
      have e1 : (ps.map PB.blk)[k]'(by simpa using hkl) = p.blk := by
        rw [List.getElem_map]; rw [List.getElem?_eq_getElem hkl] at hk; rw [Option.some.inj hk]
      have e2 : (ps.map PB.blk)[j]'(by simpa using hjl) = q.blk := by
        rw [List.getElem_map]; rw [List.getElem?_eq_getElem hjl] at hq; rw [Option.some.inj hq]
      intro e
      rcases Nat.lt_or_gt_of_ne hkj with h1 | h1
      · exact hnd k j _ _ h1 (by rw [e1, e2, e])
      · exact hnd j k _ _ h1 (by rw [e1, e2, e])
    have hb3 : BlkE w3 q.blk q.ys := Blk.grown hqo.blk hg (by simpa using hqp)
    have hb4 : BlkE (w3.setCell ⟨g, k, none⟩ (.slice (some ⟨h', 0, none⟩) n' c')) q.blk q.ys := Blk.grown hb3 (setCell_grown _ _ _ _) (by have := hqo.ne; simpa using this)
    refine ⟨g, 0, some ⟨q.blk, 0, none⟩, q.n, q.ys.length, rfl, Nat.lt_of_lt_of_le (by simpa using hgw.lt) h9.1, ?_, RowE.hi (BlkE.row hb4 q.n hqo.le) (fun b o e => by
      have e' : q.blk = b := by simpa using congrArg (fun z => z.map Addr.block) e
      subst e'
      exact ⟨hqo.ge, _, hb4⟩) h9⟩
    refine (h9.cell h.ge hg4 (by decide)).trans (hg4.c ?_)
    rw [Nat.zero_add, List.setIfInBounds_toArray, List.getElem?_toArray, List.getElem?_set, if_neg hkj, List.append_nil, List.getElem?_map, hq]; rfl
set_option maxHeartbeats 16000000 in
theorem fdPut {A : Option Addr} {n c : Nat} {bs : List (List E)} (s ag : Int) (x : E) {w : World} (ht : TabS w A n c bs) (hr : rightT bs s ag = true) (hm : macB x.mac = true) :
    Calls Try.prog 38 #[tbv (.slice A n c) s ag, x.val] w (PutR w bs s ag x) := by
  obtain rfl := ht.len
  obtain ⟨w0, hw0⟩ : ∃ w0, w0 = ((w.alloc (tObj (.slice A bs.length c) s ag)).alloc (eObj x.mac x.port x.seen x.st)).alloc (tObj (.slice none 0 0) 0 0) := ⟨_, rfl⟩
  have B0 : Below w.heap.size w w0 := by rw [hw0]; exact (((Below.refl _ _).alloc (Nat.le_refl _) _).alloc (by simp) _).alloc (by simp; omega) _
  have Y : Bx w0 w.heap.size 24 #[.slice A bs.length c, .int .i64 s, .int .i64 ag] := by rw [hw0]; exact ((Bx.new w _ _ rfl).alloc _).alloc _
  have Z : Bx w0 (w.heap.size + 1) 57 #[.int .i64 x.mac, .int .i64 x.port, .int .i64 x.seen, .bool x.st] := by rw [hw0]; exact (Bx.new _ _ _ (by simp)).alloc _
  have X : Bx w0 (w.heap.size + 2) 24 #[.slice none 0 0, .int .i64 0, .int .i64 0] := by rw [hw0]; exact Bx.new _ _ _ (by simp)
  have hz0 : w.heap.size + 2 < w0.heap.size := X.lt
  obtain ⟨h0, h1⟩ := macB_ad hm
  obtain ⟨k, hk, hkl, hkb⟩ := right_buck hr x.mac
  have hpl := Lib.hid fun W => placeOf_any (A := A) (n := bs.length) (c := c) s ag x.mac W h0 h1 (right_sizes hr).1
  rw [hk] at hpl
  have hsm := right_small hr
  have ht0 := Lib.hid ht
  replace hk := Lib.hid hk
  replace hkb := Lib.hid hkb
  replace hr := Lib.hid hr
  replace Y := Lib.hid Y
  replace Z := Lib.hid Z
  replace X := Lib.hid X
  obtain ⟨bs1, hbs1⟩ : ∃ b, b = bs.map (keepL (isM x.mac)) := ⟨_, rfl⟩
  have hl1 : bs1.length = bs.length := by rw [hbs1, List.length_map]
  have hwo := Lib.hid fun (W : World) (hT : TabS W A bs.length c bs) (cc : Nat) (hP : PredB 78 #[.pointer (some ⟨cc, 0, none⟩)] (isM x.mac) W.heap.size W) => fdWithout _ _ isOf_enters (isM x.mac) s ag hT hsm.1 hsm.2 hP
  rw [← hbs1] at hwo
  replace hbs1 := Lib.hid hbs1
  replace hl1 := Lib.hid hl1
  replace hsm := Lib.hid hsm
  clear ht h0 h1
  go_enter Try.func38, Try.ntmps38
  go_wp2_with fail
  rw [← hw0]
  clear hw0
  go_at_call 61
  (with_reducible refine (hpl.out _).mono ?_)
  rintro e w1 ⟨rfl, hb1⟩
  clear hpl
  have hs1 := hb1.size
  have Y1 := Y.out.below hb1
  have Z1 := Z.out.below hb1
  have y0 := Y1.c (i := 0) rfl
  have y1 := Y1.c (i := 1) rfl
  have y2 := Y1.c (i := 2) rfl
  have z0 := Z1.c (i := 0) rfl
  have ly := Y1.lt
  have lz := Z1.lt
  replace Y1 := Lib.hid Y1
  replace Z1 := Lib.hid Z1
  go_wp2_with fail
  refine wp_region_tail (by kernel_rfl) (fun ix => match ix with | 0 => 14 | 1 => 15 | 2 => 16 | 3 => 17 | 4 => 18 | 5 => 7 | _ => 0) 4 6 (by decide) rfl (by kernel_rfl) (by kernel_rfl) (by kernel_rfl) (fun W => Below w1.heap.size w1 W) (fun W W' => Below W.heap.size W W') (fun W h => h) (fun W W' h h' => bt h h') (fun W W' h h' => bt h h')
    (spP (tbv (.slice A bs.length c) s ag) s ag x.mac bs1 (w.heap.size + 1) w1.heap.size) spP_mono (fun i v W W' _ h _ hb => spP_mono i v W W' h hb) ?_
  refine ⟨?_, ?_, ?_, ?_, ?_, ?_, ?_, trivial⟩
  · as_aux_lemma =>
      intro a W2 K hR hm hdep hk hK hall
      replace hK : ∀ v w', spP (tbv (.slice A bs.length c) s ag) s ag x.mac bs1 (w.heap.size + 1) w1.heap.size 0 v w' → Below W2.heap.size W2 w' → K (a.put (some 14) v) w' := hK
      have d2 : a.tmps.getD 2 undef = .pointer (some ⟨w.heap.size, 0, none⟩) := hk 2 (by kernel_rfl)
      have t0 := (hR.cell (p := ⟨w.heap.size, 0, none⟩) ly).trans y0
      have t1 := (hR.cell (p := ⟨w.heap.size, 1, none⟩) ly).trans y1
      have t2 := (hR.cell (p := ⟨w.heap.size, 2, none⟩) ly).trans y2
      clear hdep hk hm hR hall
      go_simp
      exact hK _ _ rfl (Below.refl _ _)
  · as_aux_lemma =>
      intro a W2 K hR hm hdep hk hK hall
      replace hK : ∀ v w', spP (tbv (.slice A bs.length c) s ag) s ag x.mac bs1 (w.heap.size + 1) w1.heap.size 1 v w' → Below W2.heap.size W2 w' → K (a.put (some 15) v) w' := hK
      have d3 : a.tmps.getD 3 undef = .pointer (some ⟨w.heap.size + 1, 0, none⟩) := hk 3 (by kernel_rfl)
      clear hdep hk hm hR hall
      go_simp
      exact hK _ _ rfl (Below.refl _ _)
  · as_aux_lemma =>
      intro a W2 K hR hm hdep hk hK hall
      replace hK : ∀ v w', spP (tbv (.slice A bs.length c) s ag) s ag x.mac bs1 (w.heap.size + 1) w1.heap.size 2 v w' → Below W2.heap.size W2 w' → K (a.put (some 16) v) w' := hK
      have d15 : a.tmps.getD 15 undef = .pointer (some ⟨w.heap.size + 1, 0, none⟩) := hdep ⟨1, .data⟩ (by simp) rfl (by decide)
      have t0 := (hR.cell (p := ⟨w.heap.size + 1, 0, none⟩) lz).trans z0
      clear hdep hk hm hR hall
      go_simp
      exact hK _ _ rfl (Below.refl _ _)
  · as_aux_lemma =>
      intro a W2 K hR hm hdep hk hK hall
      replace hK : ∀ v w', spP (tbv (.slice A bs.length c) s ag) s ag x.mac bs1 (w.heap.size + 1) w1.heap.size 3 v w' → Below W2.heap.size W2 w' → K (a.put (some 17) v) w' := hK
      have d16 : a.tmps.getD 16 undef = .int .i64 x.mac := hdep ⟨2, .data⟩ (by simp) rfl (by decide)
      clear hdep hk hm hR hall
      go_simp
      refine (isOf_any x.mac W2 _ rfl).mono ?_
      rintro e w9 ⟨rfl, r1, r2, r3⟩
      exact hK _ _ ⟨_, rfl, by omega, r3⟩ r1
  · as_aux_lemma =>
      intro a W2 K hR hm hdep hk hK hall
      replace hK : ∀ v w', spP (tbv (.slice A bs.length c) s ag) s ag x.mac bs1 (w.heap.size + 1) w1.heap.size 4 v w' → Below W2.heap.size W2 w' → K (a.put (some 18) v) w' := hK
      have d14 : a.tmps.getD 14 undef = tbv (.slice A bs.length c) s ag := hdep ⟨0, .data⟩ (by simp) rfl (by decide)
      obtain ⟨cc, d17, e1, e2⟩ : ∃ c, a.tmps.getD 17 undef = isOfF c ∧ c < W2.heap.size ∧ W2.cell? ⟨c, 0, none⟩ = some (.int .i64 x.mac) := hdep ⟨3, .data⟩ (by simp) rfl (by decide)
      have hT := ht0.out.below (bt (bt B0 hb1) hR)
      have hcall := Lib.hid (hwo.out W2 hT cc (isOf_pred x.mac cc W2.heap.size W2 e2 e1 e1))
      have hRs := hR.size
      have hlb := hl1.out
      clear hdep hk hm hall hT e1 e2
      replace hlb := Lib.hid hlb
      have q14 : a.tmps[14]?.getD undef = tbv (.slice A bs.length c) s ag := by simpa [Array.getD_eq_getD_getElem?] using d14
      clear d14
      have q17 : a.tmps[17]?.getD undef = isOfF cc := by simpa [Array.getD_eq_getD_getElem?] using d17
      clear d17
      go_simp
      refine hcall.out.mono ?_
      rintro e w9 ⟨g, ps, rfl, r1, r2, r3⟩
      exact hK _ _ ⟨g, ps, by rw [hl1.out], r1.base hRs, r2⟩ r3
  · as_aux_lemma =>
      intro a W2 K hR hm hdep hk hK hall
      replace hK : ∀ v w', spP (tbv (.slice A bs.length c) s ag) s ag x.mac bs1 (w.heap.size + 1) w1.heap.size 5 v w' → Below W2.heap.size W2 w' → K (a.put (some 7) v) w' := hK
      have hRs := hR.size
      clear hdep hk hm hR hall
      go_simp
      exact hK _ (W2.alloc (tObj (.slice none 0 0) 0 0)) ⟨W2.heap.size, rfl, hRs, Bx.new _ _ _ rfl⟩ ((Below.refl _ _).alloc (Nat.le_refl _) _)
  · intro a W2 K hR _ _ hk hK hall
    replace hK : ∀ w', (∀ j, j < 6 → _) → _ → _ → _ → K a w' := hK
    obtain ⟨hsp, hn, hdf⟩ := hall rfl
    obtain ⟨g, ps, h18, hot, hrow⟩ : ∃ g ps, a.tmps.getD 18 undef = tbv (.slice (some ⟨g, 0, none⟩) bs1.length bs1.length) s ag ∧ OT W2 w1.heap.size g ps [] ∧ ps.map PB.row = bs1 := hsp 4 (by decide)
    obtain ⟨b7, h7, hb7, hbx⟩ : ∃ b, a.tmps.getD 7 undef = .pointer (some ⟨b, 0, none⟩) ∧ w1.heap.size ≤ b ∧ Bx W2 b TT #[.slice none 0 0, .int .i64 0, .int .i64 0] := hsp 5 (by decide)
    obtain ⟨w2, hw2⟩ : ∃ w2, w2 = (((W2.setCell ⟨b7, 0, none⟩ (.slice (some ⟨g, 0, none⟩) bs1.length bs1.length)).setCell ⟨b7, 1, none⟩ (.int .i64 s)).setCell ⟨b7, 2, none⟩ (.int .i64 ag)) := ⟨_, rfl⟩
    have hKK := Lib.hid (hK w2 hsp hn hdf)
    have hpw : PutW w0 b7 bs1.length s ag bs1 w2 := by
      refine ⟨?_, by omega, g, ps, ?_, ?_, hrow, by rw [← hrow, List.length_map]⟩
      · rw [hw2]; exact below3 (bt hb1 hR) (by omega) _ _ _
      · rw [hw2]; exact hbx.three
      · rw [hw2]; exact (hot.box3 hbx _ _ _).base hs1
    have x0 := hbx.c (i := 0) rfl
    have x1 := hbx.c (i := 1) rfl
    have x2 := hbx.c (i := 2) rfl
    have f0 := hbx.f 0
    have f1 := hbx.f 1
    have f2 := hbx.f 2
    have hbl2 : Below w1.heap.size w1 w2 := by rw [hw2]; exact below3 hR hb7 _ _ _
    clear hK hsp hR hot hrow hbx hall
    replace hpw := Lib.hid hpw
    replace hn := Lib.hid hn
    have q18 : a.tmps[18]?.getD undef = tbv (.slice (some ⟨g, 0, none⟩) bs1.length bs1.length) s ag := by simpa [Array.getD_eq_getD_getElem?] using h18
    clear h18
    go_simp
    rw [← hw2]
    refine hKK.out ?_
    replace hn := hn.out
    clear hw2 x0 x1 x2 f0 f1 f2 q18
    have s0 : a.tmps.getD 0 undef = tbv (.slice A bs.length c) s ag := hk 0 (by kernel_rfl)
    have s1 : a.tmps.getD 1 undef = x.val := hk 1 (by kernel_rfl)
    have s2 : a.tmps.getD 2 undef = .pointer (some ⟨w.heap.size, 0, none⟩) := hk 2 (by kernel_rfl)
    have s3 : a.tmps.getD 3 undef = .pointer (some ⟨w.heap.size + 1, 0, none⟩) := hk 3 (by kernel_rfl)
    have s4 : a.tmps.getD 4 undef = .pointer (some ⟨w.heap.size + 2, 0, none⟩) := hk 4 (by kernel_rfl)
    have s5 : a.tmps.getD 5 undef = .bool false := hk 5 (by kernel_rfl)
    have s6 : a.tmps.getD 6 undef = .int .i64 k := hk 6 (by kernel_rfl)
    have s7 : a.tmps.getD 7 undef = .pointer (some ⟨b7, 0, none⟩) := h7
    clear hk hKK h7
    obtain ⟨tm, df⟩ := a
    have e := arr_out tm 57 hn
    replace e : tm = #[tm.getD 0 undef, tm.getD 1 undef, tm.getD 2 undef, tm.getD 3 undef, tm.getD 4 undef, tm.getD 5 undef, tm.getD 6 undef, tm.getD 7 undef, tm.getD 8 undef, tm.getD 9 undef, tm.getD 10 undef, tm.getD 11 undef, tm.getD 12 undef, tm.getD 13 undef, tm.getD 14 undef, tm.getD 15 undef, tm.getD 16 undef, tm.getD 17 undef, tm.getD 18 undef, tm.getD 19 undef, tm.getD 20 undef, tm.getD 21 undef, tm.getD 22 undef, tm.getD 23 undef, tm.getD 24 undef, tm.getD 25 undef, tm.getD 26 undef, tm.getD 27 undef, tm.getD 28 undef, tm.getD 29 undef, tm.getD 30 undef, tm.getD 31 undef, tm.getD 32 undef, tm.getD 33 undef, tm.getD 34 undef, tm.getD 35 undef, tm.getD 36 undef, tm.getD 37 undef, tm.getD 38 undef, tm.getD 39 undef, tm.getD 40 undef, tm.getD 41 undef, tm.getD 42 undef, tm.getD 43 undef, tm.getD 44 undef, tm.getD 45 undef, tm.getD 46 undef, tm.getD 47 undef, tm.getD 48 undef, tm.getD 49 undef, tm.getD 50 undef, tm.getD 51 undef, tm.getD 52 undef, tm.getD 53 undef, tm.getD 54 undef, tm.getD 55 undef, tm.getD 56 undef] := e
    simp only at s0 s1 s2 s3 s4 s5 s6 s7 hdf
    rw [s0, s1, s2, s3, s4, s5, s6, s7] at e
    subst hdf
    clear s0 s1 s2 s3 s4 s5 s6 s7 hn
    generalize tm.getD 8 undef = u8 at e
    generalize tm.getD 9 undef = u9 at e
    generalize tm.getD 10 undef = u10 at e
    generalize tm.getD 11 undef = u11 at e
    generalize tm.getD 12 undef = u12 at e
    generalize tm.getD 13 undef = u13 at e
    generalize tm.getD 14 undef = u14 at e
    generalize tm.getD 15 undef = u15 at e
    generalize tm.getD 16 undef = u16 at e
    generalize tm.getD 17 undef = u17 at e
    generalize tm.getD 18 undef = u18 at e
    generalize tm.getD 19 undef = u19 at e
    generalize tm.getD 20 undef = u20 at e
    generalize tm.getD 21 undef = u21 at e
    generalize tm.getD 22 undef = u22 at e
    generalize tm.getD 23 undef = u23 at e
    generalize tm.getD 24 undef = u24 at e
    generalize tm.getD 25 undef = u25 at e
    generalize tm.getD 26 undef = u26 at e
    generalize tm.getD 27 undef = u27 at e
    generalize tm.getD 28 undef = u28 at e
    generalize tm.getD 29 undef = u29 at e
    generalize tm.getD 30 undef = u30 at e
    generalize tm.getD 31 undef = u31 at e
    generalize tm.getD 32 undef = u32 at e
    generalize tm.getD 33 undef = u33 at e
    generalize tm.getD 34 undef = u34 at e
    generalize tm.getD 35 undef = u35 at e
    generalize tm.getD 36 undef = u36 at e
    generalize tm.getD 37 undef = u37 at e
    generalize tm.getD 38 undef = u38 at e
    generalize tm.getD 39 undef = u39 at e
    generalize tm.getD 40 undef = u40 at e
    generalize tm.getD 41 undef = u41 at e
    generalize tm.getD 42 undef = u42 at e
    generalize tm.getD 43 undef = u43 at e
    generalize tm.getD 44 undef = u44 at e
    generalize tm.getD 45 undef = u45 at e
    generalize tm.getD 46 undef = u46 at e
    generalize tm.getD 47 undef = u47 at e
    generalize tm.getD 48 undef = u48 at e
    generalize tm.getD 49 undef = u49 at e
    generalize tm.getD 50 undef = u50 at e
    generalize tm.getD 51 undef = u51 at e
    generalize tm.getD 52 undef = u52 at e
    generalize tm.getD 53 undef = u53 at e
    generalize tm.getD 54 undef = u54 at e
    generalize tm.getD 55 undef = u55 at e
    generalize tm.getD 56 undef = u56 at e
    subst e
    simp only [Exit.then]
    clear y0 y1 y2 z0 hwo
    obtain ⟨g, ps, hX7, hot, hrow, hpn⟩ := hpw.out.box
    obtain ⟨p, hp⟩ : ∃ p, ps[k]? = some p := ⟨_, List.getElem?_eq_getElem (by rw [hpn, hl1.out]; exact hkl)⟩
    have hpl : bs1[k]? = some p.row := by rw [← hrow, List.getElem?_map, hp]; rfl
    have hpo := hot.each p (List.mem_of_getElem? hp)
    have hrl : p.row.length = p.n := by unfold PB.row; rw [List.length_take]; have := hpo.le; omega
    have hgl := hot.outer.lt
    have v0 := hX7.c (i := 0) rfl
    have v1 := hot.outer_at hp
    have v2 := (Y1.out.below hbl2).c (i := 1) rfl
    unfold PB.v at v1
    have hkN : (k : Int) < (bs1.length : Int) := by rw [hl1.out]; omega
    obtain ⟨fb, hfb⟩ : ∃ fb, ((p.n : Int) == s) = fb := ⟨_, rfl⟩
    have hfb2 : ((p.row.length : Int) == s) = fb := by rw [hrl]; exact hfb
    replace hp := Lib.hid hp
    replace hpl := Lib.hid hpl
    replace hrow := Lib.hid hrow
    replace hpn := Lib.hid hpn
    replace hrl := Lib.hid hrl
    replace hfb2 := Lib.hid hfb2
    replace hX7 := Lib.hid hX7
    replace hot := Lib.hid hot
    replace hpo := Lib.hid hpo
    replace hbl2 := Lib.hid hbl2
    go_wp2_with fail
    have K_v0 := cell_regrown v0
    have K_v1 := cell_regrown v1
    have K_v2 := cell_regrown v2
    clear v0 v1 v2
    refine wp_region_quiet_below (by kernel_rfl) (by kernel_rfl) ?_
    repeat (first | go_big_quiet_step (fail) | quiet_step (fail))
    refine wpQuiet_nil ?_
    intro _ hw'
    obtain ⟨⟨dq, osq⟩, hw''⟩ := hw'
    subst hw''
    have hb3 := below_regrown w2 dq osq
    clear K_v0 K_v1 K_v2
    generalize Go.Sort.grow (redrawn w2 dq) osq = w3 at *
    have hpw3 := Lib.hid (hpw.out.below hb3)
    have hX73 := Lib.hid (hX7.out.below hb3)
    have hot3 := Lib.hid (hot.out.below hb3)
    have hbl3 := Lib.hid (bt hb1 (bt hbl2.out hb3))
    clear hb3 hX7 hot hpw hbl2 hpo
    have hz3 := hbl3.out.size
    go_upto_if 27 with fail
    go_cut [8, 9] from 27 (fun _ _ wx => PutM w0 b7 bs1.length s ag fb (lastO p.row) bs1 wx)
    case first =>
      cases fb with
      | false =>
        go_wp2_with fail
        go_meet
        exact ⟨hpw3.out, fun h => by cases h⟩
      | true =>
        have hrow3 := (hot3.out.each p (List.mem_of_getElem? hp.out))
        have v0 := hX73.out.c (i := 0) rfl
        have v1 := hot3.out.outer_at hp.out
        unfold PB.v at v1
        have hmono : Mono p.row := by
          have hsub : p.row.Sublist (buck bs x.mac) := by
            have e := hpl.out
            rw [hbs1.out, List.getElem?_map, hkb.out] at e
            rw [← Option.some.inj e]
            exact keepL_sub _ _
          exact Mono.sub (right_mono hr.out hkb.out) hsub
        have hplen : p.row.length ≤ 64 := by
          have hsub := List.length_filter_le (fun y => !isM x.mac y) (buck bs x.mac)
          have e := hpl.out
          rw [hbs1.out, List.getElem?_map, hkb.out] at e
          have e2 := Option.some.inj e
          have := right_buck_len hr.out x.mac
          rw [← e2]; unfold keepL; omega
        have hltg := Lib.hid (lastToGo_any (BlkE.row hrow3.blk p.n hrow3.le) hplen hmono)
        obtain ⟨oy, hoy⟩ : ∃ oy, lastO p.row = oy := ⟨_, rfl⟩
        have hltg2 := hltg.out
        rw [show lastO (p.ys.take p.n) = oy from hoy] at hltg2
        replace hltg2 := Lib.hid hltg2
        replace hoy := Lib.hid hoy
        clear hltg hrow3 hmono hplen
        go_wp2_with fail
        go_at_call 63
        (with_reducible refine hltg2.out.mono ?_)
        rintro e w4 ⟨rfl, hb4⟩
        clear v0 v1 hltg2
        obtain ⟨W, hW⟩ : ∃ W, W = w4.alloc (eObj (oy.getD zE).mac (oy.getD zE).port (oy.getD zE).seen (oy.getD zE).st) := ⟨_, rfl⟩
        have BW : Below w4.heap.size w4 W := by rw [hW]; exact (Below.refl _ _).alloc (Nat.le_refl _) _
        have XW : Bx W w4.heap.size 57 #[.int .i64 (oy.getD zE).mac, .int .i64 (oy.getD zE).port, .int .i64 (oy.getD zE).seen, .bool (oy.getD zE).st] := by rw [hW]; exact Bx.new _ _ _ rfl
        have bW := Lib.hid (bt hbl3.out (bt hb4 BW))
        have X4 := Lib.hid ((hX73.out.below hb4).below BW)
        have O4 := Lib.hid ((hot3.out.below hb4).below BW)
        have hz4 := bW.out.size
        replace XW := Lib.hid XW
        have b4 := bt hbl3.out hb4
        have Y4 := Lib.hid (Y.out.below b4)
        have V4 := Lib.hid (hX73.out.below hb4)
        have hly4 := Y4.out.lt
        have hlv4 := V4.out.lt
        clear hb4 BW hX73 hot3 b4
        cases oy with
        | none =>
          have T4 := Lib.hid (copyOf_any s ag (ht0.out.below (bt B0 bW.out)) hsm.out.1 hsm.out.2)
          have XR := Lib.hid (X.out.below bW.out)
          have y0 := Y4.out.c (i := 0) rfl
          have y1 := Y4.out.c (i := 1) rfl
          have y2 := Y4.out.c (i := 2) rfl
          have hzW : w4.heap.size < W.heap.size := XW.out.lt
          simp only [Option.getD_none] at hW
          go_wp2_with fail
          rw [← hW]
          clear hW
          go_at_call 37
          (with_reducible refine T4.out.mono ?_)
          rintro e w5 ⟨g5, ps5, rfl, hot5, hrow5, _, hb5⟩
          have X5 := XR.out.below hb5
          have B5 := Lib.hid (bt B0 (bt bW.out hb5))
          have hz5 := hb5.size
          have x0 := X5.c (i := 0) rfl
          have x1 := X5.c (i := 1) rfl
          have x2 := X5.c (i := 2) rfl
          have f0 := X5.f 0
          have f1 := X5.f 1
          have f2 := X5.f 2
          have hfin := Lib.hid ((hot5.box3 X5 (.slice (some ⟨g5, 0, none⟩) bs.length bs.length) (.int .i64 s) (.int .i64 ag)).tabH (B' := w.heap.size) (by omega) hrow5 rfl)
          have hno := Lib.hid (putO_none (x := x) (bs := bs) (s := s) hk.out hbs1.out hpl.out hfb2.out hoy.out)
          clear hb5 X5 hot5 y0 y1 y2 T4
          replace hrow5 := Lib.hid hrow5
          go_wp2_with fail
          refine bodyPost_ret (v := .tuple #[tbv (.slice (some ⟨g5, 0, none⟩) bs.length bs.length) s ag, .bool false]) (by simp [results, Try.results38, go_sem, x0, x1, x2]) rfl ⟨_, _, _, by rw [hno.out]; rfl, ?_, ?_⟩
          · rw [hno.out]; exact hfin.out
          · exact below3 B5.out (by omega) _ _ _
        | some y =>
          have hsz : bs1.length ≤ 1000000 ∧ ∀ xs ∈ bs1, xs.length ≤ 1000000 := by
            refine ⟨by rw [hl1.out]; exact hsm.out.1, fun xs hxs => ?_⟩
            rw [hbs1.out] at hxs
            obtain ⟨l, hl, rfl⟩ := List.mem_map.1 hxs
            exact Nat.le_trans (List.length_filter_le _ _) (hsm.out.2 l hl)
          have hT := O4.out.tab hrow.out (n := bs1.length) rfl
          have hcall := Lib.hid (fdWithout _ _ put1_enters (isE y) s ag hT hsz.1 hsz.2 (put1_pred y w4.heap.size W.heap.size W XW.out XW.out.lt))
          have v0 := V4.out.c (i := 0) rfl
          have v1 := V4.out.c (i := 1) rfl
          have v2 := V4.out.c (i := 2) rfl
          have hzW : w4.heap.size < W.heap.size := XW.out.lt
          clear hT hsz
          simp only [Option.getD_some] at hW
          go_wp2_with fail
          rw [← hW]
          clear hW
          go_at_call 51
          (with_reducible refine hcall.out.mono ?_)
          rintro e w5 ⟨g5, ps5, rfl, hot5, hrow5, hb5⟩
          have X5 := X4.out.below hb5
          have B5 := bt bW.out hb5
          have hz5 := hb5.size
          have hge := hpw3.out.ge
          have x0 := X5.c (i := 0) rfl
          have x1 := X5.c (i := 1) rfl
          have x2 := X5.c (i := 2) rfl
          have f0 := X5.f 0
          have f1 := X5.f 1
          have f2 := X5.f 2
          have hpw5 := Lib.hid (show PutM w0 b7 bs1.length s ag true (some y) bs1 (((w5.setCell ⟨b7, 0, none⟩ (.slice (some ⟨g5, 0, none⟩) bs1.length bs1.length)).setCell ⟨b7, 1, none⟩ (.int .i64 s)).setCell ⟨b7, 2, none⟩ (.int .i64 ag)) from
            ⟨⟨below3 B5 hge _ _ _, hge, g5, ps5, X5.three, (hot5.box3 X5 _ _ _).base (by omega), hrow5, by have := congrArg List.length hrow5; simpa using this⟩, fun _ => rfl⟩)
          clear hb5 X5 hot5 v0 v1 v2 hcall hrow5 B5
          go_wp2_with fail
          go_meet
          rw [hoy.out]
          exact hpw5.out
    case rest =>
      have HM := Lib.hid hcut
      clear hcut hfb hX73 hot3 hpw3 hbl3 hz3
      obtain ⟨bsX, hbX⟩ : ∃ b, b = putX fb (lastO p.row) bs1 := ⟨_, rfl⟩
      have hyes := Lib.hid (putO_some (x := x) (bs := bs) (s := s) hk.out hbs1.out hpl.out hfb2.out HM.out.2)
      rw [← hbX] at hyes
      have hPW : PutW w0 b7 bs1.length s ag bsX wc := by rw [hbX]; exact HM.out.1
      clear hbX HM hfb2 hpl hp hrow hpn hrl
      obtain ⟨gx, px, hX7, hot, hrow, hpn⟩ := hPW.box
      obtain ⟨q, hq⟩ : ∃ q, px[k]? = some q := ⟨_, List.getElem?_eq_getElem (by rw [hpn, hl1.out]; exact hkl)⟩
      have hqo := hot.each q (List.mem_of_getElem? hq)
      have hqb := hqo.blk
      have hqle := hqo.le
      have hqlt := hot.blk_lt (List.mem_of_getElem? hq)
      have hgl := hot.outer.lt
      have hbw := hPW.bel
      have hge := hPW.ge
      have hzw := hbw.size
      have v0 := hX7.c (i := 0) rfl
      have v1 := hot.outer_at hq
      unfold PB.v at v1
      have hzx := (Z.out.below hbw)
      have z0 := hzx.c (i := 0) rfl
      have z1 := hzx.c (i := 1) rfl
      have z2 := hzx.c (i := 2) rfl
      have z3 := hzx.c (i := 3) rfl
      have lz7 := hX7.lt
      have n7 : b7 ≠ q.blk := Bx.neBlk hX7 hqb
      have n7g : b7 ≠ gx := Bx.ne hX7 hot.outer (by decide)
      have hrl : q.row.length = q.n := by unfold PB.row; rw [List.length_take]; omega
      have hqlen := hqo.sm
      replace hq := Lib.hid hq
      replace hrow := Lib.hid hrow
      replace hpn := Lib.hid hpn
      replace hX7 := Lib.hid hX7
      replace hot := Lib.hid hot
      replace hqb := Lib.hid hqb
      replace hbw := Lib.hid hbw
      replace hrl := Lib.hid hrl
      have nq : w.heap.size + 1 ≠ q.blk := by have := hqo.ge; omega
      clear hqo hzx hPW
      go_wp2_with fail
      refine wp_region_tail (by kernel_rfl) (fun ix => match ix with | 0 => 44 | 1 => 45 | 2 => 46 | 3 => 47 | 4 => 48 | 5 => 49 | 6 => 50 | 7 => 51 | 8 => 52 | 9 => 53 | 10 => 54 | 11 => 55 | _ => 0) 10 12 (by decide) rfl (by kernel_rfl) (by kernel_rfl) (by kernel_rfl) (fun W => wc.grownBy W (some q.blk)) (fun W W' => W.grownBy W' (some q.blk)) (fun W h => below_grown h) (fun W W' h h' => h.trans (below_grown h')) (fun W W' h h' => (below_grown h).trans h')
        (spQ b7 gx k bs1.length wc.heap.size x q) spQ_mono (fun i v W W' hi h _ hb => spQ_monoM hqlt i v W W' hi h hb) ?_
      refine ⟨?_, ?_, ?_, ?_, ?_, ?_, ?_, ?_, ?_, ?_, ?_, ?_, ?_, trivial⟩
      · as_aux_lemma =>
          intro a W2 K hR hm hdep hk hK hall
          replace hK : ∀ v w', spQ b7 gx k bs1.length wc.heap.size x q 0 v w' → Below W2.heap.size W2 w' → K (a.put (some 44) v) w' := hK
          have d7 : a.tmps.getD 7 undef = .pointer (some ⟨b7, 0, none⟩) := hk 7 (by kernel_rfl)
          clear hdep hk hm hR hall
          go_simp
          exact hK _ _ rfl (Below.refl _ _)
      · as_aux_lemma =>
          intro a W2 K hR hm hdep hk hK hall
          replace hK : ∀ v w', spQ b7 gx k bs1.length wc.heap.size x q 1 v w' → Below W2.heap.size W2 w' → K (a.put (some 45) v) w' := hK
          have d44 : a.tmps.getD 44 undef = .pointer (some ⟨b7, 0, none⟩) := hdep ⟨0, .data⟩ (by simp) rfl (by decide)
          have t0 := hR.cell (a := ⟨b7, 0, none⟩) v0 (by simpa using n7)
          clear hdep hk hm hR hall
          go_simp
          exact hK _ _ rfl (Below.refl _ _)
      · as_aux_lemma =>
          intro a W2 K hR hm hdep hk hK hall
          replace hK : ∀ v w', spQ b7 gx k bs1.length wc.heap.size x q 2 v w' → Below W2.heap.size W2 w' → K (a.put (some 46) v) w' := hK
          have d6 : a.tmps.getD 6 undef = .int .i64 k := hk 6 (by kernel_rfl)
          clear hdep hk hm hR hall
          go_simp
          exact hK _ _ rfl (Below.refl _ _)
      · as_aux_lemma =>
          intro a W2 K hR hm hdep hk hK hall
          replace hK : ∀ v w', spQ b7 gx k bs1.length wc.heap.size x q 3 v w' → Below W2.heap.size W2 w' → K (a.put (some 47) v) w' := hK
          have d7 : a.tmps.getD 7 undef = .pointer (some ⟨b7, 0, none⟩) := hk 7 (by kernel_rfl)
          clear hdep hk hm hR hall
          go_simp
          exact hK _ _ rfl (Below.refl _ _)
      · as_aux_lemma =>
          intro a W2 K hR hm hdep hk hK hall
          replace hK : ∀ v w', spQ b7 gx k bs1.length wc.heap.size x q 4 v w' → Below W2.heap.size W2 w' → K (a.put (some 48) v) w' := hK
          have d47 : a.tmps.getD 47 undef = .pointer (some ⟨b7, 0, none⟩) := hdep ⟨3, .data⟩ (by simp) rfl (by decide)
          have t0 := hR.cell (a := ⟨b7, 0, none⟩) v0 (by simpa using n7)
          clear hdep hk hm hR hall
          go_simp
          exact hK _ _ rfl (Below.refl _ _)
      · as_aux_lemma =>
          intro a W2 K hR hm hdep hk hK hall
          replace hK : ∀ v w', spQ b7 gx k bs1.length wc.heap.size x q 5 v w' → Below W2.heap.size W2 w' → K (a.put (some 49) v) w' := hK
          have d6 : a.tmps.getD 6 undef = .int .i64 k := hk 6 (by kernel_rfl)
          clear hdep hk hm hR hall
          go_simp
          exact hK _ _ rfl (Below.refl _ _)
      · as_aux_lemma =>
          intro a W2 K hR hm hdep hk hK hall
          replace hK : ∀ v w', spQ b7 gx k bs1.length wc.heap.size x q 6 v w' → Below W2.heap.size W2 w' → K (a.put (some 50) v) w' := hK
          have d48 : a.tmps.getD 48 undef = .slice (some ⟨gx, 0, none⟩) bs1.length bs1.length := hdep ⟨4, .data⟩ (by simp) rfl (by decide)
          have d49 : a.tmps.getD 49 undef = .int .i64 k := hdep ⟨5, .data⟩ (by simp) rfl (by decide)
          clear hdep hk hm hR hall
          go_simp
          exact hK _ _ rfl (Below.refl _ _)
      · as_aux_lemma =>
          intro a W2 K hR hm hdep hk hK hall
          replace hK : ∀ v w', spQ b7 gx k bs1.length wc.heap.size x q 7 v w' → Below W2.heap.size W2 w' → K (a.put (some 51) v) w' := hK
          have d50 : a.tmps.getD 50 undef = .pointer (some ⟨gx, k, none⟩) := hdep ⟨6, .data⟩ (by simp) rfl (by decide)
          have hne := (hot.out.each q (List.mem_of_getElem? hq.out)).ne
          have t0 := hR.cell (a := ⟨gx, k, none⟩) v1 (by simpa using Ne.symm hne)
          clear hne
          clear hdep hk hm hR hall
          go_simp
          exact hK _ _ rfl (Below.refl _ _)
      · as_aux_lemma =>
          intro a W2 K hR hm hdep hk hK hall
          replace hK : ∀ v w', spQ b7 gx k bs1.length wc.heap.size x q 8 v w' → Below W2.heap.size W2 w' → K (a.put (some 52) v) w' := hK
          have d3 : a.tmps.getD 3 undef = .pointer (some ⟨w.heap.size + 1, 0, none⟩) := hk 3 (by kernel_rfl)
          have t0 := hR.cell (a := ⟨w.heap.size + 1, 0, none⟩) z0 (by simpa using nq)
          have t1 := hR.cell (a := ⟨w.heap.size + 1, 1, none⟩) z1 (by simpa using nq)
          have t2 := hR.cell (a := ⟨w.heap.size + 1, 2, none⟩) z2 (by simpa using nq)
          have t3 := hR.cell (a := ⟨w.heap.size + 1, 3, none⟩) z3 (by simpa using nq)
          clear hdep hk hm hR hall
          go_simp
          exact hK _ _ rfl (Below.refl _ _)
      · as_aux_lemma =>
          intro a W2 K hR hm hdep hk hK hall
          replace hK : ∀ v w', spQ b7 gx k bs1.length wc.heap.size x q 9 v w' → Below W2.heap.size W2 w' → K (a.put (some 53) v) w' := hK
          have d52 : a.tmps.getD 52 undef = x.val := hdep ⟨8, .data⟩ (by simp) rfl (by decide)
          have hRs := hR.size
          clear hdep hk hm hR hall
          have q52 : a.tmps[52]?.getD undef = x.val := by simpa [Array.getD_eq_getD_getElem?] using d52
          clear d52
          go_simp
          exact hK _ (W2.alloc (eObj x.mac x.port x.seen x.st)) ⟨W2.heap.size, rfl, hRs, Blk.new W2 [x.cells] _⟩ ((Below.refl _ _).alloc (Nat.le_refl _) _)
      · as_aux_lemma =>
          intro a W2 K hR hm hdep hk hK hall
          replace hK : ∀ v w', spQ b7 gx k bs1.length wc.heap.size x q 10 v w' → W2.grownBy w' (some q.blk) → K (a.put (some 54) v) w' := hK
          have d51 : a.tmps.getD 51 undef = .slice (some ⟨q.blk, 0, none⟩) q.n q.ys.length := hdep ⟨7, .data⟩ (by simp) rfl (by decide)
          obtain ⟨vb, d53, e1, e2⟩ : ∃ vb, a.tmps.getD 53 undef = .slice (some ⟨vb, 0, none⟩) 1 1 ∧ wc.heap.size ≤ vb ∧ BlkE W2 vb [x] := hdep ⟨9, .data⟩ (by simp) rfl (by decide)
          have hbel := hm rfl
          have hRs := hbel.size
          have hcall := Lib.hid (fdInsert (x := x) (Blk.below hqb.out hbel) hqlen hqle e2 (by omega))
          have hlb := Lib.hid hrl.out
          clear hdep hk hm hall hR hbel e2
          go_simp
          refine hcall.out.mono ?_
          rintro e w9 ⟨h', c', rfl, r1, r2, r3⟩
          exact hK _ _ ⟨h', c', rfl, r1, by omega⟩ r2
      · as_aux_lemma =>
          intro a W2 K hR hm hdep hk hK hall
          replace hK : ∀ v w', spQ b7 gx k bs1.length wc.heap.size x q 11 v w' → Below W2.heap.size W2 w' → K (a.put (some 55) v) w' := hK
          have d45 : a.tmps.getD 45 undef = .slice (some ⟨gx, 0, none⟩) bs1.length bs1.length := hdep ⟨1, .data⟩ (by simp) rfl (by decide)
          have d46 : a.tmps.getD 46 undef = .int .i64 k := hdep ⟨2, .data⟩ (by simp) rfl (by decide)
          clear hdep hk hm hR hall
          go_simp
          exact hK _ _ rfl (Below.refl _ _)
      · intro a W2 K hR _ _ hk hK hall
        replace hK : ∀ w', (∀ j, j < 12 → _) → _ → _ → _ → K a w' := hK
        obtain ⟨hsp, hn, hdf⟩ := hall rfl
        obtain ⟨h', c', h54, r1, r3⟩ : ∃ h' c', a.tmps.getD 54 undef = .slice (some ⟨h', 0, none⟩) (x :: q.row).length c' ∧ (RowE W2 (some ⟨h', 0, none⟩) (x :: q.row).length c' (x :: q.row) ∧ ∃ cs, W2.heap[h']? = some (.cells cs ET (0, 0))) ∧ (h' = q.blk ∨ wc.heap.size ≤ h') := hsp 10 (by decide)
        have h55 : a.tmps.getD 55 undef = .pointer (some ⟨gx, k, none⟩) := hsp 11 (by decide)
        obtain ⟨v9, hv9⟩ : ∃ v9, v9 = Value.slice (some ⟨h', 0, none⟩) (x :: q.row).length c' := ⟨_, rfl⟩
        obtain ⟨w5, hw5⟩ : ∃ w5, w5 = W2.setCell ⟨gx, k, none⟩ v9 := ⟨_, rfl⟩
        have hKK := Lib.hid (hK w5 hsp hn hdf)
        have hne := (hot.out.each q (List.mem_of_getElem? hq.out)).ne
        have hfin := OT.put hot.out hq.out hR r1.1 r1.2 (by simp) r3 hpn.out.symm
        rw [← hv9, ← hw5] at hfin
        have kc := hR.cell (a := ⟨gx, k, none⟩) v1 (by simpa using Ne.symm hne)
        have kf := (hot.out.outer.grown hR (by simpa using Ne.symm hne)).f k
        have gr5 : wc.grownBy W2 (some q.blk) := hR
        have X5 : Bx w5 b7 TT _ := ((hX7.out.grown hR (by simpa using n7))).grown (by rw [hw5]; exact setCell_grown _ _ _ _) (by simpa using n7g)
        have hb5 : Below w0.heap.size wc w5 := (grown_below hR (fun j hj => by cases hj; exact (hot.out.each q (List.mem_of_getElem? hq.out)).ge) hzw).trans (by rw [hw5]; exact (Below.refl _ _).setCell hot.out.ge _)
        have B5 := Lib.hid (hbw.out.trans hb5)
        clear hK hsp hR r1 r3 gr5 hb5 hne hall v0 v1 z0 z1 z2 z3
        replace hfin := Lib.hid hfin
        replace X5 := Lib.hid X5
        replace hn := Lib.hid hn
        obtain ⟨m9, hm9⟩ : ∃ m, m = (x :: q.row).length := ⟨_, rfl⟩
        rw [← hm9] at hv9 h54
        replace hm9 := Lib.hid hm9
        replace hv9 := Lib.hid hv9
        have h54' := h54.trans hv9.out.symm
        have q54 : a.tmps[54]?.getD undef = v9 := by simpa [Array.getD_eq_getD_getElem?] using h54'
        have h1c : v9.oneCell' = true := by rw [hv9.out]; rfl
        rw [hv9.out] at q54 hw5
        clear h54 h54' h1c
        go_simp
        rw [← hw5]
        refine hKK.out ?_
        replace hn := hn.out
        clear hw5 kc kf q54
        have s0 : a.tmps.getD 0 undef = tbv (.slice A bs.length c) s ag := hk 0 (by kernel_rfl)
        have s1 : a.tmps.getD 1 undef = x.val := hk 1 (by kernel_rfl)
        have s2 : a.tmps.getD 2 undef = .pointer (some ⟨w.heap.size, 0, none⟩) := hk 2 (by kernel_rfl)
        have s3 : a.tmps.getD 3 undef = .pointer (some ⟨w.heap.size + 1, 0, none⟩) := hk 3 (by kernel_rfl)
        have s4 : a.tmps.getD 4 undef = .pointer (some ⟨w.heap.size + 2, 0, none⟩) := hk 4 (by kernel_rfl)
        have s6 : a.tmps.getD 6 undef = .int .i64 k := hk 6 (by kernel_rfl)
        have s7 : a.tmps.getD 7 undef = .pointer (some ⟨b7, 0, none⟩) := hk 7 (by kernel_rfl)
        clear hk hKK h55
        obtain ⟨tm, df⟩ := a
        have e := arr_out tm 57 hn
        replace e : tm = #[tm.getD 0 undef, tm.getD 1 undef, tm.getD 2 undef, tm.getD 3 undef, tm.getD 4 undef, tm.getD 5 undef, tm.getD 6 undef, tm.getD 7 undef, tm.getD 8 undef, tm.getD 9 undef, tm.getD 10 undef, tm.getD 11 undef, tm.getD 12 undef, tm.getD 13 undef, tm.getD 14 undef, tm.getD 15 undef, tm.getD 16 undef, tm.getD 17 undef, tm.getD 18 undef, tm.getD 19 undef, tm.getD 20 undef, tm.getD 21 undef, tm.getD 22 undef, tm.getD 23 undef, tm.getD 24 undef, tm.getD 25 undef, tm.getD 26 undef, tm.getD 27 undef, tm.getD 28 undef, tm.getD 29 undef, tm.getD 30 undef, tm.getD 31 undef, tm.getD 32 undef, tm.getD 33 undef, tm.getD 34 undef, tm.getD 35 undef, tm.getD 36 undef, tm.getD 37 undef, tm.getD 38 undef, tm.getD 39 undef, tm.getD 40 undef, tm.getD 41 undef, tm.getD 42 undef, tm.getD 43 undef, tm.getD 44 undef, tm.getD 45 undef, tm.getD 46 undef, tm.getD 47 undef, tm.getD 48 undef, tm.getD 49 undef, tm.getD 50 undef, tm.getD 51 undef, tm.getD 52 undef, tm.getD 53 undef, tm.getD 54 undef, tm.getD 55 undef, tm.getD 56 undef] := e
        simp only at s0 s1 s2 s3 s4 s6 s7 hdf
        rw [s0, s1, s2, s3, s4, s6, s7] at e
        subst hdf
        clear s0 s1 s2 s3 s4 s6 s7 hn
        generalize tm.getD 5 undef = u5 at e
        generalize tm.getD 8 undef = u8 at e
        generalize tm.getD 9 undef = u9 at e
        generalize tm.getD 10 undef = u10 at e
        generalize tm.getD 11 undef = u11 at e
        generalize tm.getD 12 undef = u12 at e
        generalize tm.getD 13 undef = u13 at e
        generalize tm.getD 14 undef = u14 at e
        generalize tm.getD 15 undef = u15 at e
        generalize tm.getD 16 undef = u16 at e
        generalize tm.getD 17 undef = u17 at e
        generalize tm.getD 18 undef = u18 at e
        generalize tm.getD 19 undef = u19 at e
        generalize tm.getD 20 undef = u20 at e
        generalize tm.getD 21 undef = u21 at e
        generalize tm.getD 22 undef = u22 at e
        generalize tm.getD 23 undef = u23 at e
        generalize tm.getD 24 undef = u24 at e
        generalize tm.getD 25 undef = u25 at e
        generalize tm.getD 26 undef = u26 at e
        generalize tm.getD 27 undef = u27 at e
        generalize tm.getD 28 undef = u28 at e
        generalize tm.getD 29 undef = u29 at e
        generalize tm.getD 30 undef = u30 at e
        generalize tm.getD 31 undef = u31 at e
        generalize tm.getD 32 undef = u32 at e
        generalize tm.getD 33 undef = u33 at e
        generalize tm.getD 34 undef = u34 at e
        generalize tm.getD 35 undef = u35 at e
        generalize tm.getD 36 undef = u36 at e
        generalize tm.getD 37 undef = u37 at e
        generalize tm.getD 38 undef = u38 at e
        generalize tm.getD 39 undef = u39 at e
        generalize tm.getD 40 undef = u40 at e
        generalize tm.getD 41 undef = u41 at e
        generalize tm.getD 42 undef = u42 at e
        generalize tm.getD 43 undef = u43 at e
        generalize tm.getD 44 undef = u44 at e
        generalize tm.getD 45 undef = u45 at e
        generalize tm.getD 46 undef = u46 at e
        generalize tm.getD 47 undef = u47 at e
        generalize tm.getD 48 undef = u48 at e
        generalize tm.getD 49 undef = u49 at e
        generalize tm.getD 50 undef = u50 at e
        generalize tm.getD 51 undef = u51 at e
        generalize tm.getD 52 undef = u52 at e
        generalize tm.getD 53 undef = u53 at e
        generalize tm.getD 54 undef = u54 at e
        generalize tm.getD 55 undef = u55 at e
        generalize tm.getD 56 undef = u56 at e
        subst e
        simp only [Exit.then]
        have XR := X.out.below B5.out
        have y0 := X5.out.c (i := 0) rfl
        have y1 := X5.out.c (i := 1) rfl
        have y2 := X5.out.c (i := 2) rfl
        have x0 := XR.c (i := 0) rfl
        have x1 := XR.c (i := 1) rfl
        have x2 := XR.c (i := 2) rfl
        have f0 := XR.f 0
        have f1 := XR.f 1
        have f2 := XR.f 2
        have hB9 := Lib.hid (bt B0 B5.out)
        have hT9 := Lib.hid ((TabH.base (hfin.out.hi (Hi.three w5 hz0 (.slice (some ⟨gx, 0, none⟩) bs1.length bs1.length) (.int .i64 s) (.int .i64 ag))) (show w.heap.size ≤ w0.heap.size by omega)))
        clear XR X5 hfin
        go_wp2_with fail
        refine bodyPost_ret (v := .tuple #[tbv (.slice (some ⟨gx, 0, none⟩) bs1.length bs1.length) s ag, .bool true]) (by simp [results, Try.results38, go_sem, x0, x1, x2]) rfl ⟨_, _, _, by rw [hyes.out]; rfl, ?_, ?_⟩
        · rw [hyes.out]
          have e : bsX.getD k [] = q.row := by rw [← hrow.out, List.getD_eq_getElem?_getD, List.getElem?_map, hq.out]; rfl
          rw [e, ← hrow.out]
          exact hT9.out
        · exact below3 hB9.out (by omega) _ _ _
end Go.Proofs.Ytnghilcjecjljaa.FdbP
