/-
  Contracts of those who read relay's iterator: slices.Collect, taken.
-/
import Derived.Test.YtajihgpkaklgiaaRelIB
namespace Go.Proofs.Ytajihgpkaklgiaa.RelP
open Go.RowKit Go.Sort Go.Shelf Go.Proofs.Ytajihgpkaklgiaa.SliceP Go.Proofs.Ytajihgpkaklgiaa.BoxP
open Go.Proofs.Ytajihgpkaklgiaa.IntP (RowI SlI OwnI RetI)
set_option linter.unusedVariables false
set_option maxRecDepth 100000
attribute [local go_sem] Oper.semAt_some
theorem infoI : (Try.prog.info? 3).map (fun i => (i.zero, i.size, i.bytes)) = some (some (.int .i64 0), 1, 8) := by kernel_rfl
abbrev rowI (W : World) (NB : Nat) (v : Value) (l : List Int) : Prop := W.ownsRow NB 3 1 v l.length (l.map (Value.int .i64))
theorem rowI_form {W : World} {NB : Nat} {v : Value} {l : List Int} (h : rowI W NB v l) : ∃ A c, v = .slice A l.length c := by
  rcases h.2 with ⟨h1, h2⟩ | ⟨g, c, cur, h1, _⟩
  · refine ⟨none, 0, ?_⟩
    rw [h1]; simp at h2; subst h2; rfl
  · exact ⟨_, c, h1⟩
theorem rowI_own {W : World} {NB : Nat} {v : Value} {l : List Int} (h : rowI W NB v l) : OwnI W NB v l := by
  refine ⟨?_, IntP.whole l⟩
  rw [IntP.cI_flat, IntP.cI_length]; exact h
theorem rowI_snoc {W : World} {NB : Nat} {v : Value} {p : List Int} {x : Int} (h : W.ownsRow NB 3 1 v (p.length + 1) (p.map (Value.int .i64) ++ [.int .i64 x])) : rowI W NB v (p ++ [x]) := by
  show W.ownsRow NB 3 1 v (p ++ [x]).length ((p ++ [x]).map (Value.int .i64))
  rw [List.length_append, List.map_append]; exact h
theorem ways_stops {n : Nat} (hn : 1 ≤ n) (Bs : Nat) (A : Option Addr) (cap : Nat) (zs : List St) (p : Nat) (w : World) (hlt : Bs + 1 < w.heap.size)
    (hB0 : w.cell? ⟨Bs, 0, none⟩ = some (.slice A zs.length cap)) (hB1 : w.cell? ⟨Bs + 1, 0, none⟩ = some (.int .i64 (p : Int))) (hr : RowP w A zs.length cap zs) (hp : p < zs.length) (hl : zs.length ≤ 1000) :
    SeqStopsK Fence.wide n Try.prog 26 #[.pointer (some ⟨Bs, 0, none⟩), .pointer (some ⟨Bs + 1, 0, none⟩)] (fun x : Int => #[Value.int .i64 x]) (Below w.heap.size) (fun ys => ys = flood zs p) (fun pre => pre <+: flood zs p) zs.length w :=
  fun l J Jx W hW hJ _ hY h0 => ways1_in n hn l Bs A cap zs p w hlt hB0 hB1 hr hp hl J Jx W hW hJ hY h0
theorem boxed_ownF (B : Nat) (T : TypeId) (v : Value) (X Y : World) (row : Option Nat) (h : Boxed X B T v) (hg : X.grownBy Y row) (hr : ∀ r, row = some r → ∃ o : Obj, X.heap[r]? = some o ∧ o.isCells = false) : Boxed Y B T v :=
  boxed_own _ _ (fun _ => v) () X Y row h hg hr
set_option maxHeartbeats 8000000 in
theorem i_append (Bs : Nat) (A : Option Addr) (cap : Nat) (zs : List St) (p : Nat) (w : World) (hlt : Bs + 1 < w.heap.size)
    (hB0 : w.cell? ⟨Bs, 0, none⟩ = some (.slice A zs.length cap)) (hB1 : w.cell? ⟨Bs + 1, 0, none⟩ = some (.int .i64 (p : Int))) (hr : RowP w A zs.length cap zs) (hp : p < zs.length) (hl : zs.length ≤ 1000) :
    Calls Try.prog 25 #[.slice none 0 0, .func (.func 26) #[] #[.pointer (some ⟨Bs, 0, none⟩), .pointer (some ⟨Bs + 1, 0, none⟩)]] w (RetI w (flood zs p)) := by
  obtain ⟨i0, hi, hz0, hz1, hz2⟩ := info_parts infoI
  have hS := Lib.hid (ways_stops (n := 3) (by decide) Bs A cap zs p w hlt hB0 hB1 hr hp hl)
  have B0 : Below w.heap.size w (w.alloc (.cells #[.slice none 0 0] 24)) := (Below.refl _ _).alloc (Nat.le_refl _) _
  clear hB0 hB1 hr
  replace hi := Lib.hid hi
  replace hz0 := Lib.hid hz0
  replace hz1 := Lib.hid hz1
  replace hz2 := Lib.hid hz2
  refine (callsIn_wide (n := 4)).1 ?_
  refine callsIn_of_wp_marks Try.func25 rfl trivial ?_ rfl
  simp only [Try.ntmps25, List.size_toArray, List.length_cons, List.length_nil, Nat.reduceAdd, Nat.reduceSub, Array.replicate_succ, Array.replicate_zero, List.push_toArray, List.append_toArray, List.nil_append, List.cons_append]
  gi_wp2
  have bG := Boxed.new w 24 (.slice none 0 0)
  refine wpIn_rangeFunc_ownG (n := 4) rfl (by decide) (gf := 26) (lb := #[.pointer (some ⟨Bs, 0, none⟩), .pointer (some ⟨Bs + 1, 0, none⟩)]) rfl trivial (enters_of Try.func26 (by kernel_rfl) rfl)
    hS.out belowK_t (belowK_b (by simp)) B0 (fun _ => rfl)
    (fun pre W => (∃ v, Boxed W w.heap.size 24 v ∧ rowI W w.heap.size v pre) ∧ Below w.heap.size w W)
    (fun _ _ _ => False)
    (by
      intro s X Y row hs hg hr
      obtain ⟨⟨v, h1, h2⟩, h3⟩ := hs
      have hr' : ∀ r, row = some r → ∃ o : Obj, X.heap[r]? = some o ∧ o.isCells = false := fun r e => (hr r e).2
      obtain ⟨v', h1', h2', _⟩ := holdsRow_own w.heap.size w.heap.size 24 3 1 (fun p : List Int => p.length) (fun p => p.map (Value.int .i64)) (fun _ _ => True) s X Y row ⟨v, h1, h2, trivial⟩ hg hr'
      exact ⟨⟨v', h1', h2'⟩, ownFrom_below (n₀ := w.heap.size) (w₀ := w) (Nat.le_refl _) (by simp) s X Y row h3 hg hr⟩)
    (fun _ _ _ _ _ hs _ _ => hs)
    ⟨⟨_, bG, World.ownsRow_nil _ _ _ _⟩, B0⟩
    (fun x => { tmps := #[.slice none 0 0, .func (.func 26) #[] #[.pointer (some ⟨Bs, 0, none⟩), .pointer (some ⟨Bs + 1, 0, none⟩)], .pointer (some ⟨w.heap.size, 0, none⟩), undef, .slice none 0 0, .int .i64 x, .func (.func 26) #[] #[.pointer (some ⟨Bs, 0, none⟩), .pointer (some ⟨Bs + 1, 0, none⟩)], .int .i64 x, undef, undef, undef, undef, undef], defers := [] }) ?assign ?body ?done ?stop
  case assign =>
    intro l x W K hK
    gi_wp2
    exact hK
  case body =>
    rintro lb pre x W ⟨⟨v, hv, hrow⟩, hB⟩ hlt2
    obtain ⟨A', c', rfl⟩ := rowI_form hrow
    have hc1 := hv.cell
    have hf1 := hv.frozen
    have hs := hB.size
    replace hrow := Lib.hid hrow
    replace hv := Lib.hid hv
    replace hB := Lib.hid hB
    clear bG
    gi_wp2_with (gi_at_builtin; refine wpListIn_append_own _ rfl _ _ 24 rfl w.heap.size 3 i0 (.int .i64 0) 1 8 Try.underlying24 hi.out hz0.out hz1.out hz2.out rfl (by decide) _ _ _ rfl (hrow.out.alloc _) ⟨W.heap.size, 0, none⟩ 1 1 [.int .i64 x] rfl rfl (cell_one_new _ _ _) (by simp [Value.oneCell']) (by unfold maxLen; omega) (by omega) (by simp; omega) ?_; intro v' w1 hown' hgrow _; obtain ⟨g', cap', rfl⟩ := ownsRow_succ hown'; obtain ⟨hv1, hv2, hr2, hk2, hb2⟩ := Boxed.appended hv.out (by decide) hrow.out hs (Nat.le_refl _) hown' hgrow; have hc1' := hv1.cell; have hf1' := hv1.frozen)
    exact ⟨hk2.from _, hb2, ⟨_, hv2, rowI_snoc hr2⟩, hB.out.trans hb2⟩
  case done =>
    rintro D ys W hD rfl ⟨⟨v, hv, hrow⟩, hB⟩ hK
    obtain ⟨A', c', rfl⟩ := rowI_form hrow
    have hc1 := hv.cell
    have hf1 := hv.frozen
    replace hrow := Lib.hid hrow
    replace hB := Lib.hid hB
    clear hv bG
    gi_wp2
    refine ⟨by simp, .inl ⟨_, _, rfl, run_takeDeferred hK, ?_⟩⟩
    have hDw : w.heap.size ≤ D := by simp at hD; omega
    exact ⟨_, results_tmp rfl _ _ _, _, _, rfl, rowI_own (ownsRow_putObj hrow.out _ hK rfl), hB.out.trans (belowK_b (w := w) (Nat.le_refl _) _ D _ _ hDw hK rfl rfl)⟩
  case stop =>
    rintro D c pre W hD _ h _
    exact h.elim
end Go.Proofs.Ytajihgpkaklgiaa.RelP
