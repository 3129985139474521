/-
  slices.DeleteFunc at entries, over a row that is its block, whole.
-/
import Derived.Test.YtnghilcjecjljaaFdbD
import Derived.Test.YtnghilcjecjljaaRowK
namespace Go.Proofs.Ytnghilcjecjljaa.FdbP
open Go.RowKit Go.Sort Go.Proofs.Ytnghilcjecjljaa.SliceP Go.Proofs.Ytnghilcjecjljaa.MacP
set_option linter.unusedVariables false
set_option maxRecDepth 100000

abbrev BlkE (w : World) (g : Nat) (l : List E) : Prop := Blk w g 57 (l.map E.cells)
theorem BlkE.at_ {w : World} {g : Nat} {l : List E} (h : BlkE w g l) {k : Nat} {x : E} (hk : l[k]? = some x) :
    w.cell? ⟨g, k * 4, none⟩ = some (.int .i64 x.mac) ∧ w.cell? ⟨g, k * 4 + 1, none⟩ = some (.int .i64 x.port) ∧ w.cell? ⟨g, k * 4 + 2, none⟩ = some (.int .i64 x.seen) ∧ w.cell? ⟨g, k * 4 + 3, none⟩ = some (.bool x.st) := by
  have hm : (l.map E.cells)[k]? = some x.cells := by rw [List.getElem?_map, hk]; rfl
  exact ⟨Blk.cell h (wholeE l) (j := 0) hm rfl, Blk.cell h (wholeE l) (j := 1) hm rfl, Blk.cell h (wholeE l) (j := 2) hm rfl, Blk.cell h (wholeE l) (j := 3) hm rfl⟩
theorem BlkE.set {w : World} {g : Nat} {l : List E} (h : BlkE w g l) {i : Nat} (hi : i < l.length) (x : E) :
    BlkE ((((w.setCell ⟨g, i * 4, none⟩ (.int .i64 x.mac)).setCell ⟨g, i * 4 + 1, none⟩ (.int .i64 x.port)).setCell ⟨g, i * 4 + 2, none⟩ (.int .i64 x.seen)).setCell ⟨g, i * 4 + 3, none⟩ (.bool x.st)) g (l.set i x) := by
  have := Blk.set4 h (wholeE l) (i := i) (by simpa using hi) (.int .i64 x.mac) (.int .i64 x.port) (.int .i64 x.seen) (.bool x.st)
  unfold BlkE
  rw [List.map_set]; exact this
theorem BlkE.row {w : World} {g : Nat} {l : List E} (h : BlkE w g l) (n : Nat) (hn : n ≤ l.length) : RowE w (some ⟨g, 0, none⟩) n l.length (l.take n) :=
  ⟨by rw [List.length_take]; omega, by
    have := Sl.take (Blk.sl h (wholeE l)) n
    rw [← List.map_take] at this; exact this, hn, fun hh => by cases hh⟩

def keepL (p : E → Bool) (l : List E) : List E := l.filter fun x => !p x
theorem keepL_le (p : E → Bool) (l : List E) : (keepL p l).length ≤ l.length := List.length_filter_le _ _
structure DelI (w : World) (h : Nat) (l : List E) (p : E → Bool) (j i : Nat) (wr : World) : Prop where
  len : i = (keepL p (l.take j)).length
  blk : ∃ ys, BlkE wr h ys ∧ ys.length = l.length ∧ ys.take i = keepL p (l.take j) ∧ ys.drop j = l.drop j
  gr : w.grownBy wr (some h)
theorem keepL_snoc {p : E → Bool} {l : List E} {j : Nat} {x : E} (hx : l[j]? = some x) : keepL p (l.take (j + 1)) = keepL p (l.take j) ++ if p x then [] else [x] := by
  unfold keepL
  rw [List.take_add_one, hx, List.filter_append]
  cases h : p x <;> simp [h]
theorem drop_eq_at {ys l : List E} {j : Nat} {x : E} (h : ys.drop j = l.drop j) (hx : l[j]? = some x) : ys[j]? = some x := by
  have := congrArg (fun z => z[0]?) h
  simpa [List.getElem?_drop, hx] using this
theorem DelI.skip {w wr w2 : World} {h : Nat} {l : List E} {p : E → Bool} {j i : Nat} {x : E} (H : DelI w h l p j i wr) (hx : l[j]? = some x) (hp : p x = true) (hg : wr.grownBy w2 none) : DelI w h l p (j + 1) i w2 := by
  obtain ⟨ys, h1, h2, h3, h4⟩ := H.blk
  have e : keepL p (l.take (j + 1)) = keepL p (l.take j) := by rw [keepL_snoc hx, hp]; simp
  refine ⟨by rw [e]; exact H.len, ⟨ys, Blk.grown h1 hg (by simp), h2, by rw [e]; exact h3, ?_⟩, H.gr.trans ⟨hg.os, hg.tape, hg.output, hg.size, fun k hk _ => hg.block k hk (by simp)⟩⟩
  rw [← List.drop_drop, ← List.drop_drop, h4]
theorem DelI.keep {w wr w2 w3 : World} {h : Nat} {l : List E} {p : E → Bool} {j i : Nat} {x : E} (H : DelI w h l p j i wr) (hij : i < j) (hx : l[j]? = some x) (hp : p x = false) (hg : wr.grownBy w2 none)
    (hw3 : w3 = ((((w2.setCell ⟨h, i * 4, none⟩ (.int .i64 x.mac)).setCell ⟨h, i * 4 + 1, none⟩ (.int .i64 x.port)).setCell ⟨h, i * 4 + 2, none⟩ (.int .i64 x.seen)).setCell ⟨h, i * 4 + 3, none⟩ (.bool x.st))) : DelI w h l p (j + 1) (i + 1) w3 := by
  obtain ⟨ys, h1, h2, h3, h4⟩ := H.blk
  have hj : j < l.length := (List.getElem?_eq_some_iff.1 hx).1
  have e : keepL p (l.take (j + 1)) = keepL p (l.take j) ++ [x] := by rw [keepL_snoc hx, hp]; simp
  have hi : i < ys.length := by omega
  have g1 : w.grownBy w2 (some h) := H.gr.trans ⟨hg.os, hg.tape, hg.output, hg.size, fun k hk _ => hg.block k hk (by simp)⟩
  refine ⟨by rw [e, List.length_append, ← H.len]; rfl, ⟨ys.set i x, ?_, by simpa using h2, ?_, ?_⟩, ?_⟩
  · rw [hw3]; exact BlkE.set (Blk.grown h1 hg (by simp)) hi x
  · rw [e, ← h3, List.take_succ_eq_append_getElem (by simpa using hi), List.take_set_of_le (Nat.le_refl _)]; simp
  · rw [List.drop_set_of_lt (by omega), ← List.drop_drop, ← List.drop_drop, h4]
  · rw [hw3]; exact g1.trans (set4_grown _ _ _ _ _ _ _)
theorem DelI.cells {w wr : World} {h : Nat} {l : List E} {p : E → Bool} {j i : Nat} {x : E} (H : DelI w h l p j i wr) (hx : l[j]? = some x) :
    wr.cell? ⟨h, j * 4, none⟩ = some (.int .i64 x.mac) ∧ wr.cell? ⟨h, j * 4 + 1, none⟩ = some (.int .i64 x.port) ∧ wr.cell? ⟨h, j * 4 + 2, none⟩ = some (.int .i64 x.seen) ∧ wr.cell? ⟨h, j * 4 + 3, none⟩ = some (.bool x.st) := by
  obtain ⟨ys, h1, h2, h3, h4⟩ := H.blk
  exact h1.at_ (drop_eq_at h4 hx)
theorem DelI.here {w wr w2 : World} {h : Nat} {l : List E} {p : E → Bool} {j i : Nat} (H : DelI w h l p j i wr) (hi : i < l.length) (hg : wr.grownBy w2 none) :
    ∃ m q s b, w2.cell? ⟨h, i * 4, none⟩ = some (.int .i64 m) ∧ w2.cell? ⟨h, i * 4 + 1, none⟩ = some (.int .i64 q) ∧ w2.cell? ⟨h, i * 4 + 2, none⟩ = some (.int .i64 s) ∧ w2.cell? ⟨h, i * 4 + 3, none⟩ = some (.bool b) := by
  obtain ⟨ys, h1, h2, h3, h4⟩ := H.blk
  have := (show BlkE w2 h ys from Blk.grown h1 hg (by simp)).at_ (k := i) (x := ys[i]'(by omega)) (List.getElem?_eq_getElem _)
  exact ⟨_, _, _, _, this⟩
theorem DelI.lt {w wr : World} {h : Nat} {l : List E} {p : E → Bool} {j i : Nat} (H : DelI w h l p j i wr) : h < wr.heap.size := by
  obtain ⟨ys, h1, _⟩ := H.blk; exact h1.lt
theorem DelI.free {w wr w2 : World} {h : Nat} {l : List E} {p : E → Bool} {j i : Nat} (H : DelI w h l p j i wr) (hg : wr.grownBy w2 none) (k : Nat) : w2.frozen? ⟨h, k, none⟩ = false := by
  obtain ⟨ys, h1, _⟩ := H.blk; exact (Blk.grown h1 hg (by simp)).free k
theorem zE_cells : (ev 0 0 0 false).cells.toList = zE.cells := rfl
theorem zvE : ∀ w, (zeroValue 57).run Try.prog w = .ok (ev 0 0 0 false) w := fun _ => by kernel_rfl
theorem zE_one : ∀ u ∈ (ev 0 0 0 false).cells.toList, u.oneCell' = true := fun u hu => by
  rw [zE_cells] at hu
  exact ((wholeE [zE]) zE.cells (by simp)).2 u hu
theorem DelI.done {w wr : World} {h : Nat} {l : List E} {p : E → Bool} {i : Nat} (H : DelI w h l p l.length i wr) :
    i = (keepL p l).length ∧ ∃ ys, BlkE wr h ys ∧ ys.length = l.length ∧ ys.take i = keepL p l := by
  obtain ⟨ys, h1, h2, h3, h4⟩ := H.blk
  rw [List.take_length] at h3
  exact ⟨by rw [← List.take_length (l := l)]; exact H.len, ys, h1, h2, h3⟩
def padL (p : E → Bool) (l : List E) : List E := keepL p l ++ List.replicate (l.length - (keepL p l).length) zE
theorem padL_len (p : E → Bool) (l : List E) : (padL p l).length = l.length := by
  have := keepL_le p l
  unfold padL; rw [List.length_append, List.length_replicate]; omega
theorem keep_none {p : E → Bool} {l : List E} (h : l.any p = false) : keepL p l = l := by
  unfold keepL
  rw [List.filter_eq_self]
  intro x hx
  rw [List.any_eq_false] at h
  have := h x hx
  simpa using this
theorem pad_none {p : E → Bool} {l : List E} (h : l.any p = false) : padL p l = l := by
  unfold padL; rw [keep_none h]; simp
theorem idx_any_some {p : E → Bool} {l : List E} (h : l.any p = true) : ∃ k x, idxI l p = (k : Nat) ∧ l[k]? = some x ∧ p x = true ∧ (l.take k).any p = false := by
  obtain ⟨x, hx, hp⟩ := List.any_eq_true.1 h
  have hlt : l.findIdx p < l.length := List.findIdx_lt_length_of_exists ⟨x, hx, hp⟩
  refine ⟨l.findIdx p, l[l.findIdx p], by unfold idxI; rw [if_pos h], List.getElem?_eq_getElem hlt, List.findIdx_getElem, ?_⟩
  rw [List.any_eq_false]
  intro y hy
  obtain ⟨j, hj, rfl⟩ := List.mem_take_iff_getElem.1 hy
  have := List.not_of_lt_findIdx (p := p) (xs := l) (i := j) (by omega)
  simpa using this
set_option maxHeartbeats 4000000 in
theorem fdDelete (gf : Nat) (cb : Array Value) (eg : Enters gf) (p : E → Bool) {h n : Nat} {l : List E} {w : World} (hb : BlkE w h l) (hn : n ≤ h) (hl : l.length ≤ 1000000) (hp : PredB gf cb p n w) :
    Calls Try.prog 69 #[.slice (some ⟨h, 0, none⟩) l.length l.length, fE gf cb] w fun e w' => e = .returned (.slice (some ⟨h, 0, none⟩) (keepL p l).length l.length) ∧ BlkE w' h (padL p l) ∧ w.grownBy w' (some h) := by
  have HB := Lib.hid hb
  have HP := Lib.hid hp
  have hlt := hb.lt
  have HR := Lib.hid (hb.row l.length (Nat.le_refl _))
  have eg0 := eg
  unfold Enters at eg
  rw [List.take_length] at HR
  have hidx := Lib.hid (index_any gf cb eg0 p HR.out hl (fun W hW x => hp W (hW.mono (Nat.le_trans hn (Nat.le_of_lt hlt))) x))
  clear hb hp
  go_enter Try.func69, Try.ntmps69
  go_wp2_with fail
  go_at_call 77
  (with_reducible refine hidx.out.mono ?_)
  rintro e w1 ⟨rfl, hb1⟩
  have HB1 := Lib.hid (HB.out.below hb1)
  have hlt1 := HB1.out.lt
  cases ha : l.any p with
  | false =>
    have hi : idxI l p = -1 := by unfold idxI; rw [ha]; rfl
    have k1 := Lib.hid (keep_none ha)
    have k2 := Lib.hid (pad_none ha)
    rw [hi]
    clear ha hi
    go_wp2_with fail
    go_ret
    exact ⟨by rw [k1.out]; rfl, by rw [k2.out]; exact HB1.out, below_grown hb1⟩
  | true =>
    obtain ⟨i0, x0, hi, hx0, hpx, hno⟩ := idx_any_some ha
    have hi0 : i0 < l.length := (List.getElem?_eq_some_iff.1 hx0).1
    have hne : ((i0 : Int) == -1) = false := by rw [beq_eq_false_iff_ne]; omega
    have hD : DelI w h l p (i0 + 1) i0 w1 := by
      have e : keepL p (l.take i0) = l.take i0 := keep_none hno
      have e1 : keepL p (l.take (i0 + 1)) = l.take i0 := by rw [keepL_snoc hx0, hpx, e]; simp
      exact ⟨by rw [e1, List.length_take]; omega, ⟨l, HB1.out, rfl, e1.symm, rfl⟩, below_grown hb1⟩
    rw [hi]
    replace hD := Lib.hid hD
    clear hi hx0 hpx hno ha HB1 hb1 HR HB
    have wi : IntKind.i64.wrap ((i0 : Int) + 1) = (i0 : Int) + 1 := IntWalk.i64_in _ (by omega)
    go_wp2_with fail
    clear wi
    go_loopw [5, 6] (fun vi vj wr => ∃ j i : Nat, i < j ∧ j ≤ l.length ∧ vj = .int .i64 j ∧ vi = .int .i64 i ∧ DelI w h l p j i wr) (fun _ vj _ => l.length - (intOf vj).toNat)
    case atStart => exact ⟨i0 + 1, i0, by omega, by omega, by go_num, rfl, hD.out⟩
    case round =>
      obtain ⟨j, i, hij, hj, rfl, rfl, D⟩ := hrel
      replace D := Lib.hid D
      clear hD hne
      by_cases hlj : j < l.length
      · obtain ⟨x, hx⟩ : ∃ x, l[j]? = some x := ⟨_, List.getElem?_eq_getElem hlj⟩
        obtain ⟨x0, x1, x2, x3⟩ := D.out.cells hx
        obtain ⟨W, hW⟩ : ∃ W, W = wr.alloc (eObj x.mac x.port x.seen x.st) := ⟨_, rfl⟩
        have BW : Below wr.heap.size wr W := by rw [hW]; exact (Below.refl _ _).alloc (Nat.le_refl _) _
        have XW : Bx W wr.heap.size 57 #[.int .i64 x.mac, .int .i64 x.port, .int .i64 x.seen, .bool x.st] := by rw [hW]; exact Bx.new _ _ _ rfl
        have hcall := HP.out W ((grown_below D.out.gr (fun k hk => by cases hk; exact hn) (by omega)).trans (BW.mono (by have := D.out.gr.size; omega))) x
        have wj : IntKind.i64.wrap ((j : Int) + 1) = (j : Int) + 1 := IntWalk.i64_in _ (by omega)
        have wi : IntKind.i64.wrap ((i : Int) + 1) = (i : Int) + 1 := IntWalk.i64_in _ (by omega)
        have y0 := XW.c (i := 0) rfl
        have y1 := XW.c (i := 1) rfl
        have y2 := XW.c (i := 2) rfl
        have y3 := XW.c (i := 3) rfl
        replace XW := Lib.hid XW
        replace hx := Lib.hid hx
        clear hidx HP
        cases hh : p x
        all_goals
          rw [hh] at hcall
          replace hh := Lib.hid hh
          replace hcall := Lib.hid hcall
          go_wp2_with fail
          rw [← hW]
          go_wp2_with fail
          go_at_fn gf
          (with_reducible refine hcall.out.mono ?_)
          rintro e w2 ⟨rfl, hb2⟩
          have X2 := XW.out.below hb2
          have B2 := BW.trans (hb2.mono BW.size)
          clear hb2 x0 x1 x2 x3 y0 y1 y2 y3 hcall
          have z0 := X2.c (i := 0) rfl
          have z1 := X2.c (i := 1) rfl
          have z2 := X2.c (i := 2) rfl
          have z3 := X2.c (i := 3) rfl
        · obtain ⟨m, q, s, b, d0, d1, d2, d3⟩ := D.out.here (w2 := w2) (by omega) (below_grown B2)
          have f0 := D.out.free (w2 := w2) (below_grown B2) (i * 4)
          have f1 := D.out.free (w2 := w2) (below_grown B2) (i * 4 + 1)
          have f2 := D.out.free (w2 := w2) (below_grown B2) (i * 4 + 2)
          have f3 := D.out.free (w2 := w2) (below_grown B2) (i * 4 + 3)
          have hil : i < l.length := by omega
          replace X2 := Lib.hid X2
          go_wp2_with fail
          go_roundw
          case rel => exact ⟨j + 1, i + 1, by omega, by omega, by go_num, by go_num, DelI.keep D.out hij hx.out hh.out (below_grown B2) rfl⟩
          case measure => simp [intOf]; omega
        · go_wp2_with fail
          go_roundw
          case rel => exact ⟨j + 1, i, by omega, by omega, by go_num, rfl, DelI.skip D.out hx.out hh.out (below_grown B2)⟩
          case measure => simp [intOf]; omega
      · obtain rfl : j = l.length := by omega
        obtain ⟨hi, ys, h1, h2, h3⟩ := D.out.done
        have hil : i < l.length := hij
        obtain ⟨w9, hr, h4, h5, h6⟩ := run_clear_blk (P := Try.prog) wr 55 0 elE zvE i (l.length - i) (l.length - i) h1 (wholeE ys) zE_one rfl (by rw [List.length_map, h2]; omega)
        have hend : BlkE w9 h (padL p l) := by
          have e : (padL p l).map E.cells = (ys.map E.cells).take i ++ List.replicate (l.length - i) (ev 0 0 0 false).cells.toList := by
            unfold padL
            rw [List.map_append, List.map_replicate, ← List.map_take, h3, ← hi]; rfl
          unfold BlkE; rw [e]; exact h4
        have hgr := Lib.hid (D.out.gr.trans h5)
        replace hend := Lib.hid hend
        replace hi := Lib.hid hi
        clear hidx HP h1 h2 h3 h4 h5 h6 ys
        go_wp2_with fail
        go_ret
        exact ⟨by rw [← hi.out]; rfl, hend.out, hgr.out⟩
end Go.Proofs.Ytnghilcjecjljaa.FdbP
