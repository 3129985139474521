/-
  fdb.without.
-/
import Derived.Test.YtnghilcjecjljaaFdbF
namespace Go.Proofs.Ytnghilcjecjljaa.FdbP
open Go.RowKit Go.Sort Go.Proofs.Ytnghilcjecjljaa.SliceP Go.Proofs.Ytnghilcjecjljaa.MacP
set_option linter.unusedVariables false
set_option maxRecDepth 100000

def WoR (w : World) (s ag : Int) (bs : List (List E)) (e : Ending) (w' : World) : Prop :=
  ∃ g ps, e = .returned (tbv (.slice (some ⟨g, 0, none⟩) bs.length bs.length) s ag) ∧ OT w' w.heap.size g ps [] ∧ ps.map PB.row = bs ∧ Below w.heap.size w w'
structure WoI (w2 : World) (B g lb : Nat) (bs : List (List E)) (p : E → Bool) (ps : List PB) (box : Array Value) (k : Nat) (wr : World) : Prop where
  bel : Below B w2 wr
  box : Bx wr lb 24 box
  ot : ∃ qs, qs.length = k ∧ OT wr B g (qs ++ ps.drop k) [] ∧ qs.map PB.row = (bs.take k).map (keepL p) ∧ qs.map PB.blk = (ps.take k).map PB.blk
structure WoS (ps : List PB) (bs : List (List E)) (g lb : Nat) : Prop where
  row : ps.map PB.row = bs
  full : ∀ q ∈ ps, q.n = q.ys.length
  ne : ∀ q ∈ ps, q.blk ≠ lb
  neg : g ≠ lb
theorem WoI.at_ {w2 wr : World} {B g lb k : Nat} {bs : List (List E)} {p : E → Bool} {ps : List PB} {box : Array Value} (H : WoI w2 B g lb bs p ps box k wr) (hS : WoS ps bs g lb) {q : PB} (hq : ps[k]? = some q) :
    wr.cell? ⟨g, k, none⟩ = some (.slice (some ⟨q.blk, 0, none⟩) q.ys.length q.ys.length) ∧ wr.frozen? ⟨g, k, none⟩ = false ∧ g < wr.heap.size ∧ q.blk < wr.heap.size ∧ BlkE wr q.blk q.ys ∧ B ≤ q.blk ∧ q.blk ≠ g ∧ B ≤ g := by
  obtain ⟨qs, h1, h2, h3, h4⟩ := H.ot
  have hk : (qs ++ ps.drop k)[k]? = some q := by rw [List.getElem?_append_right (by omega), List.getElem?_drop, h1]; simpa using hq
  have hm := List.mem_of_getElem? hk
  have ho := h2.each q hm
  have hc := h2.outer_at hk
  have hf := hS.full q (List.mem_of_getElem? hq)
  unfold PB.v at hc
  rw [hf] at hc
  exact ⟨hc, h2.outer.f k, h2.outer.lt, h2.blk_lt hm, ho.blk, ho.ge, ho.ne, h2.ge⟩
theorem WoI.step {w2 wr w3 w4 : World} {B g lb k : Nat} {bs : List (List E)} {p : E → Bool} {ps : List PB} {box : Array Value} (H : WoI w2 B g lb bs p ps box k wr) (hS : WoS ps bs g lb) (hB : B ≤ w2.heap.size) {q : PB} (hq : ps[k]? = some q)
    (hg : wr.grownBy w3 (some q.blk)) (h3 : BlkE w3 q.blk (padL p q.ys)) (hw4 : w4 = w3.setCell ⟨g, k, none⟩ (.slice (some ⟨q.blk, 0, none⟩) (keepL p q.ys).length q.ys.length)) :
    WoI w2 B g lb bs p ps box (k + 1) w4 ∧ w3.cell? ⟨g, k, none⟩ = some (.slice (some ⟨q.blk, 0, none⟩) q.ys.length q.ys.length) ∧ w3.frozen? ⟨g, k, none⟩ = false := by
  obtain ⟨a1, a2, a3, a4, a5, a6, a7, a8⟩ := H.at_ hS hq
  obtain ⟨qs, h1, h2, e3, e4⟩ := H.ot
  have hkl : k < ps.length := (List.getElem?_eq_some_iff.1 hq).1
  have hbl : bs.length = ps.length := by rw [← hS.row, List.length_map]
  have hbk : bs[k]? = some q.ys := by
    rw [← hS.row, List.getElem?_map, hq]
    have := hS.full q (List.mem_of_getElem? hq)
    simp [PB.row, this]
  have hg4 : w3.grownBy w4 (some g) := by rw [hw4]; exact setCell_grown _ _ _ _
  have o3 := h2.outer.grown hg (by simp; omega)
  have hd : ps.drop k = q :: ps.drop (k + 1) := by
    rw [List.drop_eq_getElem_cons hkl]
    rw [List.getElem?_eq_getElem hkl] at hq
    rw [Option.some.inj hq]
  have hnd := h2.nd
  rw [hd] at hnd
  have hq' : (⟨q.blk, padL p q.ys, (keepL p q.ys).length⟩ : PB).blk = q.blk := rfl
  have hsz : wr.heap.size ≤ w4.heap.size := Nat.le_trans hg.size hg4.size
  refine ⟨⟨H.bel.trans ((grown_below hg (fun j hj => by cases hj; omega) (by have := H.bel.size; omega)).trans (grown_below hg4 (fun j hj => by cases hj; omega) (by have := H.bel.size; have := hg.size; omega))), ?_, qs ++ [⟨q.blk, padL p q.ys, (keepL p q.ys).length⟩], ?_, ?_, ?_, ?_⟩, ?_, ?_⟩
  · exact (H.box.grown hg (by have := hS.ne q (List.mem_of_getElem? hq); simp; omega)).grown hg4 (by have := hS.neg; simp; omega)
  · simp [h1]
  · refine ⟨h2.ge, ?_, ?_, ?_⟩
    · have o4 := o3.set k (.slice (some ⟨q.blk, 0, none⟩) (keepL p q.ys).length q.ys.length)
      rw [← hw4] at o4
      have e : (((qs ++ ps.drop k).map PB.v ++ []).toArray.setIfInBounds k (.slice (some ⟨q.blk, 0, none⟩) (keepL p q.ys).length q.ys.length)) = ((qs ++ [(⟨q.blk, padL p q.ys, (keepL p q.ys).length⟩ : PB)] ++ ps.drop (k + 1)).map PB.v ++ []).toArray := by
        rw [List.setIfInBounds_toArray, List.append_nil, List.append_nil, hd, List.map_append, List.set_append_right _ _ (by simp [h1])]
        simp [h1, PB.v, padL_len]
      rw [e] at o4; exact o4
    · have e : (qs ++ [(⟨q.blk, padL p q.ys, (keepL p q.ys).length⟩ : PB)] ++ ps.drop (k + 1)).map PB.blk = (qs ++ q :: ps.drop (k + 1)).map PB.blk := by simp
      rw [e]; exact hnd
    · intro r hr
      have hcase : r = ⟨q.blk, padL p q.ys, (keepL p q.ys).length⟩ ∨ (r ∈ qs ++ ps.drop k ∧ r.blk ≠ q.blk) := by
        rw [List.map_append, List.map_cons, List.nodup_append] at hnd
        obtain ⟨_, n2, n3⟩ := hnd
        rw [List.nodup_cons] at n2
        rw [List.mem_append, List.mem_append] at hr
        rcases hr with (hr | hr) | hr
        · exact .inr ⟨List.mem_append_left _ hr, n3 _ (List.mem_map_of_mem hr) _ (by simp)⟩
        · simp at hr; exact .inl hr
        · refine .inr ⟨List.mem_append_right _ (by rw [hd]; exact List.mem_cons_of_mem _ hr), fun e => n2.1 ?_⟩
          rw [← e]; exact List.mem_map_of_mem hr
      rcases hcase with rfl | ⟨hr, hne⟩
      · exact ⟨a6, a7, by show (keepL p q.ys).length ≤ (padL p q.ys).length; rw [padL_len]; exact keepL_le _ _, Blk.grown h3 hg4 (by simp; omega), by show (padL p q.ys).length ≤ 1000000; rw [padL_len]; exact (h2.each q (List.mem_of_getElem? (show (qs ++ ps.drop k)[k]? = some q by rw [List.getElem?_append_right (by omega), List.getElem?_drop, h1]; simpa using hq))).sm⟩
      · exact ((h2.each r hr).grown hg (by simp; omega)).grown hg4 (by have := (h2.each r hr).ne; simp; omega)
  · rw [List.map_append, e3, List.take_add_one, hbk, List.map_append]; simp [PB.row, padL]
  · rw [List.map_append, e4, List.take_add_one, hq, List.map_append]; simp
  · exact hg.cell a1 (by simp; omega)
  · exact o3.f k
theorem OT.start {w0 : World} {B g lb : Nat} {ps : List PB} {tl : List Value} (h : OT w0 B g ps tl) (hl : lb = w0.heap.size) : (∀ q ∈ ps, q.blk ≠ lb) ∧ g ≠ lb := by
  subst hl
  exact ⟨fun q hq e => by have := h.blk_lt hq; omega, fun e => by have := h.outer.lt; omega⟩
set_option maxHeartbeats 8000000 in
theorem fdWithout (gf : Nat) (cb : Array Value) (eg : Enters gf) (p : E → Bool) {A : Option Addr} {n c : Nat} {bs : List (List E)} (s ag : Int) {w : World} (ht : TabS w A n c bs) (hl : bs.length ≤ 1000000) (hs : ∀ xs ∈ bs, xs.length ≤ 1000000) (hp : PredB gf cb p w.heap.size w) :
    Calls Try.prog 51 #[tbv (.slice A n c) s ag, fE gf cb] w (WoR w s ag (bs.map (keepL p))) := by
  have hlen := ht.len
  obtain ⟨w0, hw0⟩ : ∃ w0, w0 = (w.alloc (tObj (.slice A n c) s ag)).alloc (tObj (.slice none 0 0) 0 0) := ⟨_, rfl⟩
  have B0 : Below w.heap.size w w0 := by rw [hw0]; exact ((Below.refl _ _).alloc (Nat.le_refl _) _).alloc (by simp) _
  have Y : Bx w0 w.heap.size 24 #[.slice A n c, .int .i64 s, .int .i64 ag] := by rw [hw0]; exact (Bx.new w _ _ rfl).alloc _
  have X : Bx w0 (w.heap.size + 1) 24 #[.slice none 0 0, .int .i64 0, .int .i64 0] := by rw [hw0]; exact Bx.new _ _ _ (by simp)
  have hz0 : w0.heap.size = w.heap.size + 2 := by rw [hw0]; simp
  have y0 := Y.c (i := 0) rfl
  have y1 := Y.c (i := 1) rfl
  have y2 := Y.c (i := 2) rfl
  have HP := Lib.hid hp
  have hz1 : w.heap.size + 2 ≤ w0.heap.size := by omega
  have hcp := Lib.hid (copyOf_any s ag (ht.below B0) hl hs)
  have hlen' := Lib.hid hlen
  replace X := Lib.hid X
  replace hs := Lib.hid hs
  clear hz0 ht hp hlen Y
  go_enter Try.func51, Try.ntmps51
  go_wp2_with fail
  rw [← hw0]
  clear hw0
  go_wp2_with fail
  go_at_call 37
  (with_reducible refine hcp.out.mono ?_)
  rintro e w1 ⟨g, ps, rfl, hot, hrow, hfull, hb1⟩
  clear y0 y1 y2 hcp
  have hz2 := hb1.size
  obtain ⟨w2, hw2⟩ : ∃ w2, w2 = w1.alloc (tObj (.slice (some ⟨g, 0, none⟩) bs.length bs.length) s ag) := ⟨_, rfl⟩
  have b2 : Below w1.heap.size w1 w2 := by rw [hw2]; exact (Below.refl _ _).alloc (Nat.le_refl _) _
  have L2 : Bx w2 w1.heap.size 24 #[.slice (some ⟨g, 0, none⟩) bs.length bs.length, .int .i64 s, .int .i64 ag] := by rw [hw2]; exact Bx.new _ _ _ rfl
  have hst := hot.start (lb := w1.heap.size) rfl
  have hS := Lib.hid (show WoS ps bs g w1.heap.size from ⟨hrow, hfull, hst.1, hst.2⟩)
  have I0 := Lib.hid (show WoI w2 w0.heap.size g w1.heap.size bs p ps #[.slice (some ⟨g, 0, none⟩) bs.length bs.length, .int .i64 s, .int .i64 ag] 0 w2 from ⟨Below.refl _ _, L2, [], rfl, by simpa using hot.below b2, by simp, by simp⟩)
  have B2 := Lib.hid ((hb1.trans (b2.mono hz2)))
  have hz3 := B2.out.size
  have l0 := L2.c (i := 0) rfl
  clear hot hrow hfull hst hb1 b2 L2
  go_wp2_with fail
  rw [← hw2]
  clear hw2
  go_wp2_with fail
  clear l0
  go_loopw [13] (fun i wr => ∃ k : Nat, k ≤ bs.length ∧ i = .int .i64 k ∧ WoI w2 w0.heap.size g w1.heap.size bs p ps #[.slice (some ⟨g, 0, none⟩) bs.length bs.length, .int .i64 s, .int .i64 ag] k wr) (fun i _ => bs.length - (intOf i).toNat)
  case atStart => exact ⟨0, by omega, rfl, I0.out⟩
  case round =>
    obtain ⟨k, hk, rfl, I⟩ := hrel
    replace I := Lib.hid I
    clear I0
    have hzr := I.out.bel.size
    by_cases hlk : k < bs.length
    · have hpl : ps.length = bs.length := by rw [← hS.out.row, List.length_map]
      obtain ⟨q, hq⟩ : ∃ x, ps[k]? = some x := ⟨_, List.getElem?_eq_getElem (by omega)⟩
      obtain ⟨a1, a2, a3, a4, a5, a6, a7, a8⟩ := I.out.at_ hS.out hq
      have hql : q.ys.length ≤ 1000000 := by
        refine hs.out q.ys ?_
        rw [← hS.out.row]
        refine List.mem_map.2 ⟨q, List.mem_of_getElem? hq, ?_⟩
        unfold PB.row; rw [hS.out.full q (List.mem_of_getElem? hq), List.take_length]
      have hlb : w1.heap.size ≠ q.blk := fun e => hS.out.ne q (List.mem_of_getElem? hq) e.symm
      have hlg : w1.heap.size ≠ g := fun e => hS.out.neg e.symm
      have hP2 := Lib.hid ((B0.trans (B2.out.mono (by omega))).trans (I.out.bel.mono (by omega)))
      replace a5 := Lib.hid a5
      replace hq := Lib.hid hq
      have l0 := I.out.box.c (i := 0) rfl
      replace hpl := Lib.hid hpl
      go_wp2_with fail
      clear a1
      refine wp_region_tail2 (by kernel_rfl) (fun ix => match ix with | 0 => 18 | 1 => 19 | 2 => 20 | 3 => 21 | 4 => 22 | 5 => 23 | 6 => 24 | _ => 0) 5 7 (by decide) rfl (by kernel_rfl) (by kernel_rfl) (by kernel_rfl) (fun w1 => wr.grownBy w1 (some q.blk)) (fun w1 w2 => w1.grownBy w2 (some q.blk)) (fun w1 h => below_grown h) (fun w1 w2 h h' => h.trans (below_grown h')) (fun w1 w2 h h' => (below_grown h).trans h')
        (fun ix v => match ix with | 0 => v = .pointer (some ⟨w1.heap.size, 0, none⟩) | 1 => v = .slice (some ⟨g, 0, none⟩) bs.length bs.length | 2 => v = .int .i64 k | 3 => v = .slice (some ⟨q.blk, 0, none⟩) q.ys.length q.ys.length | 4 => v = fE gf cb | 6 => v = .pointer (some ⟨g, k, none⟩) | _ => True) (fun (v : Value) (w' : World) => v = .slice (some ⟨q.blk, 0, none⟩) (keepL p q.ys).length q.ys.length ∧ BlkE w' q.blk (padL p q.ys)) (fun v w1 w2 h hb => ⟨h.1, Blk.below h.2 hb⟩) ?_
      refine ⟨?_, ?_, ?_, ?_, ?_, ?_, ?_, ?_, trivial⟩
      · intro a W2 K hR hm hdep hk hK hall
        replace hK : ∀ v w', v = .pointer (some ⟨w1.heap.size, 0, none⟩) → Below W2.heap.size W2 w' → K (a.put (some 18) v) w' := fun v w' h hb => hK v w' ⟨h, fun e => absurd e (by decide)⟩ hb
        have d5 : a.tmps.getD 5 undef = .pointer (some ⟨w1.heap.size, 0, none⟩) := hk 5 (by kernel_rfl)
        clear hdep hk hm hR hall
        go_simp
        exact hK _ _ rfl (Below.refl _ _)
      · intro a W2 K hR hm hdep hk hK hall
        replace hK : ∀ v w', v = .slice (some ⟨g, 0, none⟩) bs.length bs.length → Below W2.heap.size W2 w' → K (a.put (some 19) v) w' := fun v w' h hb => hK v w' ⟨h, fun e => absurd e (by decide)⟩ hb
        have d18 : a.tmps.getD 18 undef = .pointer (some ⟨w1.heap.size, 0, none⟩) := (hdep ⟨0, .data⟩ (by simp) rfl (by decide)).1
        have t0 := hR.cell (a := ⟨w1.heap.size, 0, none⟩) l0 (by simpa using hlb)
        clear hdep hk hm hR hall
        go_simp
        exact hK _ _ rfl (Below.refl _ _)
      · intro a W2 K hR hm hdep hk hK hall
        replace hK : ∀ v w', v = .int .i64 k → Below W2.heap.size W2 w' → K (a.put (some 20) v) w' := fun v w' h hb => hK v w' ⟨h, fun e => absurd e (by decide)⟩ hb
        have d6 : a.tmps.getD 6 undef = .int .i64 k := hk 6 (by kernel_rfl)
        clear hdep hk hm hR hall
        go_simp
        exact hK _ _ rfl (Below.refl _ _)
      · intro a W2 K hR hm hdep hk hK hall
        replace hK : ∀ v w', v = .slice (some ⟨q.blk, 0, none⟩) q.ys.length q.ys.length → Below W2.heap.size W2 w' → K (a.put (some 21) v) w' := fun v w' h hb => hK v w' ⟨h, fun e => absurd e (by decide)⟩ hb
        have d7 : a.tmps.getD 7 undef = .slice (some ⟨q.blk, 0, none⟩) q.ys.length q.ys.length := hk 7 (by kernel_rfl)
        clear hdep hk hm hR hall
        go_simp
        exact hK _ _ rfl (Below.refl _ _)
      · intro a W2 K hR hm hdep hk hK hall
        replace hK : ∀ v w', v = fE gf cb → Below W2.heap.size W2 w' → K (a.put (some 22) v) w' := fun v w' h hb => hK v w' ⟨h, fun e => absurd e (by decide)⟩ hb
        have d1 : a.tmps.getD 1 undef = fE gf cb := hk 1 (by kernel_rfl)
        clear hdep hk hm hR hall
        go_simp
        exact hK _ _ rfl (Below.refl _ _)
      · intro a W2 K hR hm hdep hk hK hall
        replace hK : ∀ v w', v = .slice (some ⟨q.blk, 0, none⟩) (keepL p q.ys).length q.ys.length ∧ BlkE w' q.blk (padL p q.ys) → W2.grownBy w' (some q.blk) → K (a.put (some 23) v) w' := fun v w' h hb => hK v w' ⟨trivial, fun _ => h⟩ hb
        have d21 : a.tmps.getD 21 undef = .slice (some ⟨q.blk, 0, none⟩) q.ys.length q.ys.length := (hdep ⟨3, .data⟩ (by simp) rfl (by decide)).1
        have d22 : a.tmps.getD 22 undef = fE gf cb := (hdep ⟨4, .data⟩ (by simp) rfl (by decide)).1
        have hbel := hm rfl
        have hdel := fdDelete gf cb eg p (Blk.below a5.out hbel) (n := w.heap.size) (by omega) hql (HP.out.mono (hP2.out.trans (hbel.mono (by omega))))
        replace hdel := Lib.hid hdel
        clear hdep hk hm hall hR hbel
        go_simp
        refine hdel.out.mono ?_
        rintro e w9 ⟨rfl, r1, r2⟩
        exact hK _ _ ⟨rfl, r1⟩ r2
      · intro a W2 K hR hm hdep hk hK hall
        replace hK : ∀ v w', v = .pointer (some ⟨g, k, none⟩) → Below W2.heap.size W2 w' → K (a.put (some 24) v) w' := fun v w' h hb => hK v w' ⟨h, fun e => absurd e (by decide)⟩ hb
        have d19 : a.tmps.getD 19 undef = .slice (some ⟨g, 0, none⟩) bs.length bs.length := (hdep ⟨1, .data⟩ (by simp) rfl (by decide)).1
        have d20 : a.tmps.getD 20 undef = .int .i64 k := (hdep ⟨2, .data⟩ (by simp) rfl (by decide)).1
        clear hdep hk hm hR hall
        go_simp
        exact hK _ _ rfl (Below.refl _ _)
      · intro a W2 K hR hm hdep hk hK hall
        obtain ⟨hsp, hn, hdf⟩ := hall rfl
        obtain ⟨h23, hbk⟩ := (hsp 5 (by decide)).2 rfl
        have h24 : a.tmps.getD 24 undef = .pointer (some ⟨g, k, none⟩) := (hsp 6 (by decide)).1
        obtain ⟨hst, kc, kf⟩ := I.out.step hS.out (by omega) hq.out hR hbk rfl
        replace hK : ∀ w', (∀ j, j < 7 → _) → _ → _ → _ → K a w' := hK
        have hKK := Lib.hid (hK (W2.setCell ⟨g, k, none⟩ (.slice (some ⟨q.blk, 0, none⟩) (keepL p q.ys).length q.ys.length)) hsp hn hdf)
        clear hK hsp hall hm hdep hR
        replace hst := Lib.hid hst
        replace hbk := Lib.hid hbk
        replace hn := Lib.hid hn
        have q23 : a.tmps[23]?.getD undef = .slice (some ⟨q.blk, 0, none⟩) (keepL p q.ys).length q.ys.length := by simpa [Array.getD_eq_getD_getElem?] using h23
        clear h23
        go_simp
        refine hKK.out ?_
        replace hn := hn.out
        have s0 : a.tmps.getD 0 undef = tbv (.slice A n c) s ag := hk 0 (by kernel_rfl)
        have s1 : a.tmps.getD 1 undef = fE gf cb := hk 1 (by kernel_rfl)
        have s2 : a.tmps.getD 2 undef = .pointer (some ⟨w.heap.size, 0, none⟩) := hk 2 (by kernel_rfl)
        have s3 : a.tmps.getD 3 undef = undef := hk 3 (by kernel_rfl)
        have s4 : a.tmps.getD 4 undef = .pointer (some ⟨w.heap.size + 1, 0, none⟩) := hk 4 (by kernel_rfl)
        have s5 : a.tmps.getD 5 undef = .pointer (some ⟨w1.heap.size, 0, none⟩) := hk 5 (by kernel_rfl)
        have s6 : a.tmps.getD 6 undef = .int .i64 k := hk 6 (by kernel_rfl)
        have s7 : a.tmps.getD 7 undef = .slice (some ⟨q.blk, 0, none⟩) q.ys.length q.ys.length := hk 7 (by kernel_rfl)
        have s8 : a.tmps.getD 8 undef = .agg #[.slice A n c, .int .i64 s, .int .i64 ag] := hk 8 (by kernel_rfl)
        have s9 : a.tmps.getD 9 undef = tbv (.slice (some ⟨g, 0, none⟩) bs.length bs.length) s ag := hk 9 (by kernel_rfl)
        have s10 : a.tmps.getD 10 undef = .pointer (some ⟨w1.heap.size, 0, none⟩) := hk 10 (by kernel_rfl)
        have s11 : a.tmps.getD 11 undef = .slice (some ⟨g, 0, none⟩) bs.length bs.length := hk 11 (by kernel_rfl)
        have s12 : a.tmps.getD 12 undef = .int .i64 bs.length := hk 12 (by kernel_rfl)
        have s13 : a.tmps.getD 13 undef = .int .i64 k := hk 13 (by kernel_rfl)
        have s26 : a.tmps.getD 26 undef = undef := hk 26 (by kernel_rfl)
        clear hk hKK q23 h24 kc kf
        obtain ⟨tm, df⟩ := a
        have e := arr_out tm 27 hn
        replace e : tm = #[tm.getD 0 undef, tm.getD 1 undef, tm.getD 2 undef, tm.getD 3 undef, tm.getD 4 undef, tm.getD 5 undef, tm.getD 6 undef, tm.getD 7 undef, tm.getD 8 undef, tm.getD 9 undef, tm.getD 10 undef, tm.getD 11 undef, tm.getD 12 undef, tm.getD 13 undef, tm.getD 14 undef, tm.getD 15 undef, tm.getD 16 undef, tm.getD 17 undef, tm.getD 18 undef, tm.getD 19 undef, tm.getD 20 undef, tm.getD 21 undef, tm.getD 22 undef, tm.getD 23 undef, tm.getD 24 undef, tm.getD 25 undef, tm.getD 26 undef] := e
        simp only at s0 s1 s2 s3 s4 s5 s6 s7 s8 s9 s10 s11 s12 s13 s26 hdf
        rw [s0, s1, s2, s3, s4, s5, s6, s7, s8, s9, s10, s11, s12, s13, s26] at e
        subst hdf
        clear s0 s1 s2 s3 s4 s5 s6 s7 s8 s9 s10 s11 s12 s13 s26 hn
        generalize tm.getD 14 undef = u14 at e
        generalize tm.getD 15 undef = u15 at e
        generalize tm.getD 16 undef = u16 at e
        generalize tm.getD 17 undef = u17 at e
        generalize tm.getD 18 undef = u18 at e
        generalize tm.getD 19 undef = u19 at e
        generalize tm.getD 20 undef = u20 at e
        generalize tm.getD 21 undef = u21 at e
        generalize tm.getD 22 undef = u22 at e
        generalize tm.getD 23 undef = u23 at e
        generalize tm.getD 24 undef = u24 at e
        generalize tm.getD 25 undef = u25 at e
        subst e
        simp only [Exit.inBlock, Exit.then]
        go_wp2_with fail
        go_roundw
        case rel => exact ⟨k + 1, by omega, by go_num, hst.out⟩
        case measure => simp [intOf]; omega
    · obtain rfl : k = bs.length := by omega
      obtain ⟨qs, h1, o1, o2, _⟩ := I.out.ot
      have hpl : ps.length = bs.length := by rw [← hS.out.row, List.length_map]
      rw [← hpl, List.drop_length, List.append_nil] at o1
      rw [List.take_length] at o2
      have XB := X.out.below (B2.out.trans (I.out.bel.mono (by omega)))
      have l0 := I.out.box.c (i := 0) rfl
      have l1 := I.out.box.c (i := 1) rfl
      have l2 := I.out.box.c (i := 2) rfl
      have x0 := XB.c (i := 0) rfl
      have x1 := XB.c (i := 1) rfl
      have x2 := XB.c (i := 2) rfl
      have g0 := XB.f 0
      have g1 := XB.f 1
      have g2 := XB.f 2
      have Br := Lib.hid (B0.trans ((B2.out.trans (I.out.bel.mono (by omega))).mono (by omega)))
      replace o1 := Lib.hid o1
      replace o2 := Lib.hid o2
      replace h1 := Lib.hid h1
      replace hpl := Lib.hid hpl
      clear XB
      go_wp2_with fail
      refine bodyPost_ret (v := tbv (.slice (some ⟨g, 0, none⟩) bs.length bs.length) s ag) (by simp [results, Try.results51, go_sem, x0, x1, x2]) rfl ⟨g, qs, by rw [List.length_map], ?_, o2.out, ?_⟩
      · refine OT.base (B := w0.heap.size) ?_ (by omega)
        repeat (refine OT.setLow ?_ (by omega) _ _)
        exact o1.out
      · repeat (first | with_reducible exact Br.out | refine Below.setCell ?_ (by first | omega | (simp; done) | (simp; omega)) _)
end Go.Proofs.Ytnghilcjecjljaa.FdbP
