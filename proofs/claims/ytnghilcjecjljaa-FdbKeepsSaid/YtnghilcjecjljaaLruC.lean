/-
  Contracts of lru's iterator (fromLast), and of lru.Oldest.
-/
import Derived.Test.YtnghilcjecjljaaLruB
import Derived.RangeFuncNested
import Derived.RangeFuncBound
import Derived.RangeFuncCalls
import Derived.RangeFuncLeaves
import Derived.RangeFuncBox
import Derived.Shelf.Abstract
import Derived.Shelf.RegionOpen
import Derived.OwnWalkIn
import Derived.TacticsInMore
import Derived.LoopNIn
import Derived.LoopIn
namespace Go.Proofs.Ytnghilcjecjljaa.LruP
open Go.RowKit Go.Sort Go.Proofs.Ytnghilcjecjljaa.SliceP Go.Proofs.Ytnghilcjecjljaa.IntP Go.Shelf
set_option linter.unusedVariables false
set_option maxRecDepth 100000
attribute [local go_sem] Oper.semAt_some

/-- What a round keeps: all below n₀, and the iterator's own box. -/
def Kp (n₀ Bs : Nat) (W W' : World) : Prop := Below n₀ W W' ∧ W'.heap[Bs]? = W.heap[Bs]?
theorem kp_t {n₀ Bs : Nat} {A B C : World} (h : Kp n₀ Bs A B) (k : Kp n₀ Bs B C) : Kp n₀ Bs A C := ⟨h.1.trans k.1, k.2.trans h.2⟩
theorem kp_b {n₀ Bs : Nat} {w : World} (hn : n₀ ≤ w.heap.size) (hB : Bs < w.heap.size) (W : World) (l : Nat) (o o' : Obj) (hl : w.heap.size ≤ l) (h : W.heap[l]? = some o) (hc : o.isCells = false) (hw : o.isWalk = false) : Kp n₀ Bs W (W.putObj l o') :=
  ⟨belowK_b hn W l o o' hl h hc hw, World.putObj_heap_other (by omega)⟩
theorem Kp.refl (n₀ Bs : Nat) (W : World) : Kp n₀ Bs W W := ⟨Below.refl _ _, rfl⟩
theorem Kp.cell {n₀ Bs : Nat} {W W' : World} (h : Kp n₀ Bs W W') {v : Value} (hc : W.cell? ⟨Bs, 0, none⟩ = some v) : W'.cell? ⟨Bs, 0, none⟩ = some v := by
  rw [← hc]; unfold World.cell?; simp only [h.2]

set_option maxHeartbeats 1000000 in
theorem fromLast_in (F : Fence) (n : Nat) (hf : F.fn 92) (hro : F.round = none) (A : Option Addr) (k c : Nat) (w : World) :
    CallsIn F n Try.prog 92 #[.slice A k c] w fun e w' => e = .returned (.func (.func 101) #[] #[.pointer (some ⟨w.heap.size, 0, none⟩)]) ∧ w' = w.alloc (.cells #[.slice A k c] 98) := by
  refine callsIn_of_wp Try.func92 rfl hf ?_ hro
  simp only [Try.ntmps92, List.size_toArray, List.length_cons, List.length_nil, Nat.reduceAdd, Nat.reduceSub, Array.replicate_succ, Array.replicate_zero, List.push_toArray, List.append_toArray, List.nil_append, List.cons_append]
  gi_wp2
  go_ret
  exact ⟨rfl, rfl⟩

set_option maxHeartbeats 4000000 in
theorem last1_in (F : Fence) (n : Nat) (hf : F.fn 101) (hro : F.round = none) (hn : 1 ≤ n) (l Bs n₀ : Nat) (A : Option Addr) (cap : Nat) (zs : List Int) (hzs : zs.length ≤ 1000000) (J Jx : List Int → World → Prop)
    (hY : ∀ pre x W, J pre W → pre.length < zs.length → YieldAt F (n - 1) Try.prog l #[.int .i64 x] W fun e W' =>
      (e = .returned (.bool true) ∧ J (pre ++ [x]) W' ∧ Kp n₀ Bs W W') ∨ (e = .returned (.bool false) ∧ Jx (pre ++ [x]) W'))
    (W : World) (hBs : W.cell? ⟨Bs, 0, none⟩ = some (.slice A zs.length cap)) (hS : SlI W A zs) (hA : zs ≠ [] → ∀ a, A = some a → a.block < n₀) (h0 : J [] W) :
    CallsIn F n Try.prog 101 #[.func (.yield l) #[] #[], .pointer (some ⟨Bs, 0, none⟩)] W fun e W' => (∃ v, e = .returned v) ∧
      ((∃ ys, ys = zs.reverse ∧ J ys W') ∨ (∃ pre, (∃ j, j < zs.length ∧ pre = (zs.drop j).reverse) ∧ Jx pre W')) := by
  have HS := Lib.hid hS
  have HA := Lib.hid hA
  clear hS hA
  refine callsIn_of_wp Try.func101 rfl hf ?_ hro
  simp only [Try.ntmps101, List.size_toArray, List.length_cons, List.length_nil, Nat.reduceAdd, Nat.reduceSub, Array.replicate_succ, Array.replicate_zero, List.push_toArray, List.append_toArray, List.nil_append, List.cons_append]
  gi_wp2
  gi_loopw [3] (fun i wr => ∃ (m : Nat) (z : Int), m ≤ zs.length ∧ i = .int .i64 z ∧ z = (m : Int) - 1 ∧ J (zs.drop m).reverse wr ∧ Kp n₀ Bs W wr) (fun i _ => (intOf i + 1).toNat)
  case atStart => exact ⟨zs.length, _, Nat.le_refl _, rfl, rfl, by rw [List.drop_length]; exact h0, Kp.refl _ _ _⟩
  case round =>
    obtain ⟨m, z, hm, rfl, hz, hJ, hk⟩ := hrel
    have hc1 := hk.cell hBs
    by_cases hz0 : 0 ≤ z
    · obtain ⟨j, rfl⟩ : ∃ j : Nat, z = (j : Int) := ⟨z.toNat, by omega⟩
      obtain rfl : m = j + 1 := by omega
      clear hz
      obtain ⟨y, hy⟩ : ∃ y, zs[j]? = some y := ⟨_, List.getElem?_eq_getElem (by omega)⟩
      obtain ⟨b, o, rfl, hbw, x0⟩ := SlI.at_ HS.out hy
      have hbn : b < n₀ := HA.out (by rintro rfl; simp at hy) _ rfl
      replace x0 := (hk.1.cell (p := ⟨b, _, none⟩) hbn).trans x0
      have hjl : (j : Int) < (zs.length : Int) := by omega
      have hnx := Lib.hid (back_next hy)
      obtain ⟨fn, tmps, assign, body, hyd, hR⟩ := hY _ y wr hJ (by rw [List.length_reverse, List.length_drop]; omega)
      clear hy hBs hJ
      gi_wp2
      refine hR.mono ?_
      rintro e W3 (⟨rfl, hJ3, hk3⟩ | ⟨rfl, hJx3⟩)
      · gi_wp2
        go_roundw
        case rel => exact ⟨j, (j : Int) - 1, by omega, by go_num, rfl, by rw [hnx.out]; exact hJ3, kp_t hk hk3⟩
        case measure => (simp [intOf]) <;> omega
      · gi_wp2
        refine bodyPost_ret (results_none rfl _ _ _) rfl ?_
        exact ⟨⟨_, rfl⟩, .inr ⟨_, ⟨j, by omega, rfl⟩, by rw [hnx.out]; exact hJx3⟩⟩
    · obtain rfl : m = 0 := by omega
      have hz1 : z < 0 := by omega
      clear hz hBs
      rw [List.drop_zero] at hJ
      gi_wp2
      go_end0
      first | exact ⟨⟨_, rfl⟩, .inl hJ⟩ | exact ⟨⟨_, rfl⟩, .inl ⟨_, rfl, hJ⟩⟩

theorem last_stops (F : Fence) (n : Nat) (hf : F.fn 101) (hro : F.round = none) (hn : 1 ≤ n) (Bs n₀ : Nat) (A : Option Addr) (cap : Nat) (zs : List Int) (hzs : zs.length ≤ 1000000) (w : World) (hBs : Bs < w.heap.size)
    (hc : w.cell? ⟨Bs, 0, none⟩ = some (.slice A zs.length cap)) (hS : SlI w A zs) (hA : zs ≠ [] → ∀ a, A = some a → a.block < n₀) :
    SeqStopsK F n Try.prog 101 #[.pointer (some ⟨Bs, 0, none⟩)] (fun x : Int => #[Value.int .i64 x]) (Kp n₀ Bs) (fun ys => ys = zs.reverse) (fun pre => ∃ j, j < zs.length ∧ pre = (zs.drop j).reverse) zs.length w := fun l J Jx W hW _ _ hY h0 =>
  last1_in F n hf hro hn l Bs n₀ A cap zs hzs J Jx hY W ((hW.cell (p := ⟨Bs, 0, none⟩) hBs).trans hc) (hS.below hW) hA h0
theorem SlI.block {w : World} {A : Option Addr} {l : List Int} (h : SlI w A l) (hl : l ≠ []) : ∀ a, A = some a → a.block < w.heap.size := fun a ha => by
  obtain ⟨b, o, e, hb, _⟩ := h (by unfold cI; simpa using hl)
  rw [ha] at e
  injection e with e
  subst e; exact hb

/-- The oldest one. -/
def Old (w : World) (n e : Int) (en : Ending) (w' : World) : Prop := en = .returned (.tuple #[.int .i64 n, .int .i64 e]) ∧ Below w.heap.size w w'

set_option maxHeartbeats 4000000 in
theorem oldest_bad {A : Option Addr} {n c : Nat} {l : List Int} {w : World} (h : RowI w A n c l) (hl : l.length ≤ 1000) (hb : rightI l = false) :
    Calls Try.prog 79 #[.slice A n c] w (Old w 0 1) := by
  have B0 : Below w.heap.size w ((w.alloc (.cells #[.int .i64 0] 3)).alloc (.cells #[.int .i64 0] 26)) := ((Below.refl _ _).alloc (Nat.le_refl _) _).alloc (by simp) _
  have H := Lib.hid (h.below B0)
  have HB := Lib.hid hb
  clear h hb
  go_enter Try.func79, Try.ntmps79
  go_wp2_with fail
  go_at_call 91
  (with_reducible refine (right_is H.out hl _ HB.out).mono ?_)
  rintro e w1 ⟨rfl, rfl⟩
  go_wp2_with fail
  exact bodyPost_ret (v := .tuple #[.int .i64 0, .int .i64 1]) (by simp [results, Try.results79, go_sem]) rfl ⟨rfl, ((Below.refl _ _).alloc (Nat.le_refl _) _).alloc (by simp) _⟩

set_option maxHeartbeats 4000000 in
theorem oldest_good {A : Option Addr} {n c : Nat} {l : List Int} {w : World} (h : RowI w A n c l) (hl : l.length ≤ 1000) (hb : rightI l = true) (x er : Int) (hx : (l = [] ∧ x = 0 ∧ er = 4) ∨ (l[l.length - 1]? = some x ∧ er = 0)) :
    Calls Try.prog 79 #[.slice A n c] w (Old w x er) := by
  obtain rfl := h.len
  have B0 : Below w.heap.size w ((w.alloc (.cells #[.int .i64 0] 3)).alloc (.cells #[.int .i64 0] 26)) := ((Below.refl _ _).alloc (Nat.le_refl _) _).alloc (by simp) _
  have B1 : Below w.heap.size w (((w.alloc (.cells #[.int .i64 0] 3)).alloc (.cells #[.int .i64 0] 26)).alloc (.cells #[.slice A l.length c] 98)) := B0.alloc (by simp; omega) _
  have H := Lib.hid (h.below B0)
  have H1 := Lib.hid (h.below B1)
  have HB := Lib.hid hb
  have HX := Lib.hid hx
  have HA : Hid (l ≠ [] → ∀ a, A = some a → a.block < w.heap.size) := Lib.hid (fun hn => SlI.block h.sl hn)
  have HN := Lib.hid h.nil
  clear h hb hx
  refine (callsIn_wide (n := 4)).1 ?_
  refine callsIn_of_wp_marks Try.func79 rfl trivial ?_ rfl
  simp only [Try.ntmps79, List.size_toArray, List.length_cons, List.length_nil, Nat.reduceAdd, Nat.reduceSub, Array.replicate_succ, Array.replicate_zero, List.push_toArray, List.append_toArray, List.nil_append, List.cons_append]
  gi_wp2_with (first | (refine ⟨trivial, ?_⟩; gi_at_call 91; refine (callsIn_wide.2 (right_is H.out hl _ HB.out)).mono ?_; rintro e w1 ⟨rfl, rfl⟩) | (refine ⟨trivial, ?_⟩; gi_at_call 92; refine (fromLast_in Fence.wide _ trivial rfl _ _ _ _).mono ?_; rintro e w' ⟨rfl, rfl⟩))
  have bX := Boxed.new w 3 (.int .i64 0)
  have bE := Boxed.new (w.alloc (.cells #[.int .i64 0] 3)) 26 (.int .i64 0)
  have bR := Boxed.new ((w.alloc (.cells #[.int .i64 0] 3)).alloc (.cells #[.int .i64 0] 26)) 98 (.slice A l.length c)
  simp only [World.size_alloc] at bE bR
  refine wpIn_rangeFunc_ownG (n := 4) rfl (by decide) (gf := 101) (lb := #[.pointer (some ⟨w.heap.size + 1 + 1, 0, none⟩)]) rfl trivial (enters_of Try.func101 (by kernel_rfl) rfl)
    (last_stops Fence.wide 3 trivial rfl (by decide) (w.heap.size + 1 + 1) w.heap.size A c l (by omega) _ (by simp) bR.cell H1.out.sl HA.out) kp_t (kp_b (by simp; omega) (by simp)) (Below.refl _ _) (fun _ => rfl)
    (fun pre W => (pre = [] ∧ Boxed W w.heap.size 3 (.int .i64 0) ∧ Boxed W (w.heap.size + 1) 26 (.int .i64 0)) ∧ Below w.heap.size w W)
    (fun c pre W => (c = .ret ∧ ∃ y : Int, pre = [y] ∧ Boxed W w.heap.size 3 (.int .i64 y) ∧ Boxed W (w.heap.size + 1) 26 (.int .i64 0)) ∧ Below w.heap.size w W)
    (OwnFrom.and (Own.from (fun s X Y row hs hg hr => ⟨hs.1, boxed_own _ _ (fun _ => _) s X Y row hs.2.1 hg hr, boxed_own _ _ (fun _ => _) s X Y row hs.2.2 hg hr⟩) _) (ownFrom_below (Nat.le_refl _) (by simp; omega)))
    (fun c => OwnFrom.and (Own.from (fun s X Y row hs hg hr => by obtain ⟨h1, y, h2, h3, h4⟩ := hs; exact ⟨h1, y, h2, boxed_own _ _ (fun _ => _) s X Y row h3 hg hr, boxed_own _ _ (fun _ => _) s X Y row h4 hg hr⟩) _) (ownFrom_below (Nat.le_refl _) (by simp; omega)))
    ⟨⟨rfl, (bX.alloc _).alloc _, bE.alloc _⟩, B1⟩
    (fun x => { tmps := #[.slice A l.length c, undef, .pointer (some ⟨w.heap.size, 0, none⟩), .pointer (some ⟨w.heap.size + 1, 0, none⟩), .int .i64 x, .slice A l.length c, .bool true, .bool false, .slice A l.length c, .func (.func 101) #[] #[.pointer (some ⟨w.heap.size + 1 + 1, 0, none⟩)], .int .i64 x, undef], defers := [] }) ?assign ?body ?done ?stop
  case assign =>
    intro l x W K hK
    gi_wp2
    exact hK
  case body =>
    rintro l pre x W ⟨⟨rfl, hx1, hx2⟩, hB⟩ _
    have hc1 := hx1.cell
    have hf1 := hx1.frozen
    have hc2 := hx2.cell
    have hf2 := hx2.frozen
    gi_wp2
    exact ⟨((KeepsOthers.setCell _ _ _).trans (KeepsOthers.setCell _ _ _)).from _, ⟨rfl, x, rfl, (hx1.set _).other (by omega) _, (hx2.other (by omega) _).set _⟩, (hB.setCell (p := ⟨w.heap.size, 0, none⟩) (Nat.le_refl _) _).setCell (p := ⟨w.heap.size + 1, 0, none⟩) (by simp) _⟩
  case done =>
    rintro D ys W hD rfl ⟨⟨hys, hx1, hx2⟩, hB⟩ hK
    have hc1 := hx1.cell
    have hf1 := hx1.frozen
    have hc2 := hx2.cell
    have hf2 := hx2.frozen
    gi_wp2
    obtain rfl : l = [] := by simpa using hys
    obtain ⟨rfl, rfl⟩ : x = 0 ∧ er = 4 := by
      rcases HX.out with ⟨_, h1, h2⟩ | ⟨h1, _⟩
      · exact ⟨h1, h2⟩
      · simp at h1
    have hx1' := (hx1.set (.int .i64 0)).other (show w.heap.size ≠ w.heap.size + 1 by omega) (.int .i64 4)
    have hx2' := (hx2.other (show w.heap.size + 1 ≠ w.heap.size by omega) (.int .i64 0)).set (.int .i64 4)
    have hK' := ((KeepsOthers.setCell W ⟨w.heap.size, 0, none⟩ (.int .i64 0)).trans (KeepsOthers.setCell _ ⟨w.heap.size + 1, 0, none⟩ (.int .i64 4))).same D _ hK rfl
    refine ⟨by simp, .inl ⟨_, _, rfl, run_takeDeferred hK', ?_⟩⟩
    have c1 := cell_kept hx1'.cell (grownBy_putObj' _ D (.deferred none)) (fun r e => by cases e; exact ⟨_, hK', rfl⟩)
    have c2 := cell_kept hx2'.cell (grownBy_putObj' _ D (.deferred none)) (fun r e => by cases e; exact ⟨_, hK', rfl⟩)
    refine ⟨.tuple #[.int .i64 0, .int .i64 4], ?_, rfl, ((hB.setCell (p := ⟨w.heap.size, 0, none⟩) (Nat.le_refl _) _).setCell (p := ⟨w.heap.size + 1, 0, none⟩) (by simp) _).trans (belowK_b (w := w) (Nat.le_refl _) _ D _ _ (by simp at hD; omega) hK' rfl rfl)⟩
    simp [results, Try.f79, go_sem, c1, c2]
  case stop =>
    rintro D c pre W hD ⟨j, hj, hpre⟩ ⟨⟨rfl, y, hy, hx1, hx2⟩, hB⟩ hK
    gi_wp2
    obtain ⟨hy1, rfl⟩ : l[l.length - 1]? = some y ∧ j = l.length - 1 := by
      have e : l.drop j = [y] := by
        rw [← List.reverse_reverse (l.drop j), ← hpre, hy]; rfl
      have el := congrArg List.length e
      simp at el
      obtain rfl : j = l.length - 1 := by omega
      refine ⟨?_, rfl⟩
      have := congrArg (fun q : List Int => q[0]?) e
      simpa using this
    obtain ⟨rfl, rfl⟩ : x = y ∧ er = 0 := by
      rcases HX.out with ⟨h0, h1, h2⟩ | ⟨h1, h2⟩
      · subst h0; simp at hj
      · rw [hy1] at h1; exact ⟨(Option.some.inj h1).symm, h2⟩
    refine ⟨by simp, .inl ⟨_, _, rfl, run_takeDeferred hK, ?_⟩⟩
    have c1 := cell_kept hx1.cell (grownBy_putObj' _ D (.deferred none)) (fun r e => by cases e; exact ⟨_, hK, rfl⟩)
    have c2 := cell_kept hx2.cell (grownBy_putObj' _ D (.deferred none)) (fun r e => by cases e; exact ⟨_, hK, rfl⟩)
    refine ⟨.tuple #[.int .i64 x, .int .i64 0], ?_, rfl, hB.trans (belowK_b (w := w) (Nat.le_refl _) _ D _ _ (by simp at hD; omega) hK rfl rfl)⟩
    simp [results, Try.f79, go_sem, c1, c2]
end Go.Proofs.Ytnghilcjecjljaa.LruP
