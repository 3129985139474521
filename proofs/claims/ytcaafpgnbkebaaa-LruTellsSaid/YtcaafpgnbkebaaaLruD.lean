/-
  Contract of lru's split.
-/
import Derived.Test.YtcaafpgnbkebaaaLruC
import Derived.Test.YtcaafpgnbkebaaaRegRel
import Derived.Maps.AppendAt
namespace Go.Proofs.Ytcaafpgnbkebaaa.LruP
open Go.RowKit Go.Sort Go.Proofs.Ytcaafpgnbkebaaa.SliceP Go.Proofs.Ytcaafpgnbkebaaa.IntP Go.Shelf Go.Proofs.Ytcaafpgnbkebaaa.MacP
set_option linter.unusedVariables false
set_option maxRecDepth 100000
attribute [local go_sem] Oper.semAt_some

theorem infoI : (Try.prog.info? 3).map (fun i => (i.zero, i.size, i.bytes)) = some (some (.int .i64 0), 1, 8) := by kernel_rfl
abbrev rowI (W : World) (NB : Nat) (v : Value) (l : List Int) : Prop := W.ownsRow NB 3 1 v l.length (l.map (Value.int .i64))
theorem rowI_form {W : World} {NB : Nat} {v : Value} {l : List Int} (h : rowI W NB v l) : ∃ A c, v = .slice A l.length c := by
  rcases h.2 with ⟨h1, h2⟩ | ⟨g, c, cur, h1, _⟩
  · refine ⟨none, 0, ?_⟩
    rw [h1]; simp at h2; subst h2; rfl
  · exact ⟨_, c, h1⟩
theorem rowI_own {W : World} {NB : Nat} {v : Value} {l : List Int} (h : rowI W NB v l) : OwnI W NB v l := by
  refine ⟨?_, IntP.whole l⟩
  rw [cI_flat, cI_length]; exact h
theorem rowI_snoc {W : World} {NB : Nat} {v : Value} {p : List Int} {x : Int} (h : W.ownsRow NB 3 1 v (p.length + 1) (p.map (Value.int .i64) ++ [.int .i64 x])) : rowI W NB v (p ++ [x]) := by
  show W.ownsRow NB 3 1 v (p ++ [x]).length ((p ++ [x]).map (Value.int .i64))
  rw [List.length_append, List.map_append]; exact h
/-- What an append and the store behind it leave. -/
theorem split_step {W w1 : World} {ws NB G : Nat} {v v' : Value} {l m : List Int} {tmp : Obj} (hv : Boxed W G 38 v) (hrow : rowI W NB v l) (hN : NB ≤ W.heap.size) (hG : ws ≤ G) (hGN : G < NB)
    (hown' : rowI w1 NB v' m) (hgrow : (W.alloc tmp).grownBy w1 v.ownBlock) :
    (∀ B, B < NB → B ≠ G → (w1.setCell ⟨G, 0, none⟩ v').heap[B]? = W.heap[B]?) ∧ Boxed w1 G 38 v ∧ Boxed (w1.setCell ⟨G, 0, none⟩ v') G 38 v' ∧ rowI (w1.setCell ⟨G, 0, none⟩ v') NB v' m ∧ KeepsOthers W (w1.setCell ⟨G, 0, none⟩ v') ∧ Below ws W (w1.setCell ⟨G, 0, none⟩ v') := by
  have hNw : ∀ j, v.ownBlock = some j → NB ≤ j := fun j hj => (hrow.lt j hj).1
  have hN' : ∀ j, v'.ownBlock = some j → NB ≤ j := fun j hj => (hown'.lt j hj).1
  have hv1 : Boxed w1 G 38 v := (hv.alloc tmp).kept hgrow (fun e => by have := hNw G e.symm; omega)
  refine ⟨fun B hB hne => ?_, hv1, hv1.set v', hown'.kept (grownBy_setCell' w1 G v') (.inr (fun e => by have := hN' G e; omega)), ?_, ?_⟩
  · rw [(grownBy_setCell' w1 G v').block B (by have := hgrow.size; simp at this; omega) (fun e => hne (by injection e)), hgrow.block B (by simp; omega) (fun e => by have := hNw B e.symm; omega), Below.heap_alloc W tmp B (by omega)]
  · refine ((KeepsOthers.alloc W tmp).trans (KeepsOthers.of_grownBy hgrow fun j o ej hj => ?_)).trans (KeepsOthers.setCell _ _ _)
    rcases (hrow.alloc tmp).2 with ⟨rfl, _⟩ | ⟨g, cap, cur, rfl, _, hgb, _⟩
    · simp [Value.ownBlock] at ej
    · obtain rfl : g = j := by simpa [Value.ownBlock] using ej
      rw [hgb] at hj; cases hj; rfl
  · exact (((Below.refl ws W).alloc (by omega) tmp).grown hgrow (by simp; omega) fun j ej => by have := hNw j ej; omega).setCell (p := ⟨G, 0, none⟩) hG v'

/-- How the loop stands: what has gone is p; the boxes. -/
structure SpI (ws : Nat) (w : World) (A : Option Addr) (n c : Nat) (m : Int) (p : List Int) (W : World) : Prop where
  gone : ∃ v, Boxed W (ws + 1 + 1) 38 v ∧ rowI W (ws + 1 + 1 + 1 + 1) v p
  row : Boxed W ws 38 (.slice A n c)
  most : Boxed W (ws + 1) 3 (.int .i64 m)
  bel : Below ws w W
  room : ws + 1 + 1 + 1 + 1 ≤ W.heap.size
theorem spI_own {ws : Nat} {w : World} {A : Option Addr} {n c : Nat} {m : Int} {B : Nat} (hw : w.heap.size = ws) (hB : ws ≤ B) : OwnFrom B (fun p W => SpI ws w A n c m p W) := by
  intro p X Y row hs hg hr
  obtain ⟨⟨v, h1, h2⟩, h3, h4, h5, h6⟩ := hs
  have hr' : ∀ r, row = some r → ∃ o : Obj, X.heap[r]? = some o ∧ o.isCells = false := fun r e => (hr r e).2
  obtain ⟨v', h1', h2', _⟩ := holdsRow_own (ws + 1 + 1 + 1 + 1) (ws + 1 + 1) 38 3 1 (fun p : List Int => p.length) (fun p => p.map (Value.int .i64)) (fun _ _ => True) p X Y row ⟨v, h1, h2, trivial⟩ hg hr'
  exact ⟨⟨v', h1', h2'⟩, boxed_own _ _ (fun _ => _) p X Y row h3 hg hr', boxed_own _ _ (fun _ => _) p X Y row h4 hg hr', ownFrom_below (n₀ := ws) (w₀ := w) (by omega) hB p X Y row h5 hg hr, Nat.le_trans h6 hg.size⟩

theorem drop_rev {l p : List Int} {x : Int} {j : Nat} (hj : j < l.length) (h : p ++ [x] = (l.drop j).reverse) : p = (l.drop (j + 1)).reverse := by
  rw [List.drop_eq_getElem_cons hj, List.reverse_cons] at h
  exact (List.append_inj' h rfl).1

/-- Two rows, new, are handed back. -/
def RetS (w : World) (l m : List Int) (e : Ending) (w' : World) : Prop :=
  ∃ A c A' c', e = .returned (.tuple #[.slice A l.length c, .slice A' m.length c']) ∧ OwnI w' w.heap.size (.slice A l.length c) l ∧ OwnI w' w.heap.size (.slice A' m.length c') m ∧ Below w.heap.size w w'

/-- What the operations of split's last statement yield. -/
def tVal (A A' : Option Addr) (n c k c' q : Nat) : Nat → Value
  | 0 => .slice A n c
  | 1 => .slice A n c
  | 2 => .int .i64 n
  | 3 => .slice A' k c'
  | 4 => .int .i64 k
  | 5 => .int .i64 q
  | 6 => .slice A q c
  | _ => .slice A' k c'
def tSp (ws : Nat) (A A' : Option Addr) (n c k c' q : Nat) (lq : List Int) (i : Nat) (v : Value) (w : World) : Prop := if i = 7 ∨ i = 9 then OwnI w ws v lq else v = tVal A A' n c k c' q i
theorem tSp_mono (ws : Nat) (A A' : Option Addr) (n c k c' q : Nat) (lq : List Int) (i : Nat) (v : Value) (w w' : World) (h : tSp ws A A' n c k c' q lq i v w) (hb : Below w.heap.size w w') : tSp ws A A' n c k c' q lq i v w' := by
  unfold tSp at *
  split
  · rw [if_pos (by assumption)] at h; exact h.below hb
  · rw [if_neg (by assumption)] at h; exact h
theorem below_set {w : World} {B : Nat} {t : TypeId} {v : Value} (h : Boxed w B t v) : Below w.heap.size w (w.setCell ⟨B, 0, none⟩ v) := by
  have e := h.set v
  refine ⟨rfl, rfl, rfl, by simp, fun k hk => ?_⟩
  by_cases hB : k = B
  · subst hB; rw [show _ = _ from h]; exact e
  · exact (grownBy_setCell' w B v).block k hk (fun e => hB (by injection e))

set_option maxHeartbeats 1000000 in
theorem split_any {A : Option Addr} {n c : Nat} {l : List Int} {w : World} (h : RowI w A n c l) (hl : l.length ≤ 1000) (m : Nat) (hm : m ≤ 9223372036854775807) :
    Calls Try.prog 23 #[.slice A n c, .int .i64 m] w (RetS w (l.take (min m l.length)) (l.drop (min m l.length)).reverse) := by
  obtain rfl := h.len
  obtain ⟨i0, hi, hz0, hz1, hz2⟩ := info_parts infoI
  have B0 : Below w.heap.size w (((w.alloc (.cells #[.slice A l.length c] 38)).alloc (.cells #[.int .i64 m] 3)).alloc (.cells #[.slice none 0 0] 38)) := (((Below.refl _ _).alloc (Nat.le_refl _) _).alloc (by simp) _).alloc (by simp; omega) _
  have B1 : Below w.heap.size w ((((w.alloc (.cells #[.slice A l.length c] 38)).alloc (.cells #[.int .i64 m] 3)).alloc (.cells #[.slice none 0 0] 38)).alloc (.cells #[.slice A l.length c] 38)) := B0.alloc (by simp; omega) _
  have H := Lib.hid h
  have H1 := Lib.hid (h.below B1)
  have HA : Hid (l ≠ [] → ∀ a, A = some a → a.block < w.heap.size) := Lib.hid (fun hn => SlI.block h.sl hn)
  clear h
  replace hi := Lib.hid hi
  replace hz0 := Lib.hid hz0
  replace hz1 := Lib.hid hz1
  replace hz2 := Lib.hid hz2
  refine (callsIn_wide (n := 4)).1 ?_
  refine callsIn_of_wp_marks Try.func23 rfl trivial ?_ rfl
  simp only [Try.ntmps23, List.size_toArray, List.length_cons, List.length_nil, Nat.reduceAdd, Nat.reduceSub, Array.replicate_succ, Array.replicate_zero, List.push_toArray, List.append_toArray, List.nil_append, List.cons_append]
  gi_wp2_with (refine ⟨trivial, ?_⟩; gi_at_call 21; refine (fromLast_in Fence.wide _ trivial rfl _ _ _ _).mono ?_; rintro e w' ⟨rfl, rfl⟩)
  have bR := Boxed.new w 38 (.slice A l.length c)
  have bM := Boxed.new (w.alloc (.cells #[.slice A l.length c] 38)) 3 (.int .i64 m)
  have bG := Boxed.new ((w.alloc (.cells #[.slice A l.length c] 38)).alloc (.cells #[.int .i64 m] 3)) 38 (.slice none 0 0)
  have bS := Boxed.new (((w.alloc (.cells #[.slice A l.length c] 38)).alloc (.cells #[.int .i64 m] 3)).alloc (.cells #[.slice none 0 0] 38)) 38 (.slice A l.length c)
  simp only [World.size_alloc] at bM bG bS
  refine wpIn_rangeFunc_ownG (n := 4) rfl (by decide) (gf := 24) (lb := #[.pointer (some ⟨w.heap.size + 1 + 1 + 1, 0, none⟩)]) rfl trivial (enters_of Try.func24 (by kernel_rfl) rfl)
    (last_stops Fence.wide 3 trivial rfl (by decide) (w.heap.size + 1 + 1 + 1) w.heap.size A c l (by omega) _ (by simp) bS.cell H1.out.sl HA.out) kp_t (kp_b (by simp; omega) (by simp)) (Below.refl _ _) (fun _ => rfl)
    (fun p W => SpI w.heap.size w A l.length c m p W ∧ p.length ≤ l.length - m)
    (fun c' p' W => ∃ p x, (c' = .exit 0 ∧ p' = p ++ [x] ∧ p.length = l.length - m) ∧ SpI w.heap.size w A l.length c m p W)
    (OwnFrom.and (spI_own rfl (by simp; omega)) (fun s X Y row hs _ _ => hs))
    (fun c' => fun s X Y row hs hg hr => by obtain ⟨p, x, h1, h2⟩ := hs; exact ⟨p, x, h1, spI_own rfl (by simp; omega) p X Y row h2 hg hr⟩)
    ⟨⟨⟨_, bG.alloc _, World.ownsRow_nil _ _ _ _⟩, ((bR.alloc _).alloc _).alloc _, (bM.alloc _).alloc _, B1, by simp⟩, by simp⟩
    (fun x => { tmps := #[.slice A l.length c, .int .i64 m, .pointer (some ⟨w.heap.size, 0, none⟩), .pointer (some ⟨w.heap.size + 1, 0, none⟩), .slice none 0 0, .pointer (some ⟨w.heap.size + 1 + 1, 0, none⟩), .int .i64 x, .slice A l.length c, .func (.func 24) #[] #[.pointer (some ⟨w.heap.size + 1 + 1 + 1, 0, none⟩)], .int .i64 x, undef, undef, undef, undef, undef, undef, undef, undef, undef, undef, undef, undef, undef, undef, undef, undef, undef, undef, undef, undef], defers := [] }) ?assign ?body ?done ?stop
  case assign =>
    intro l x W K hK
    gi_wp2
    exact hK
  case body =>
    rintro lb p x W ⟨⟨⟨v, hv, hrow⟩, hR, hM, hB, hN⟩, hpk⟩ hlt
    obtain ⟨A', c', rfl⟩ := rowI_form hrow
    have hc1 := hv.cell
    have hf1 := hv.frozen
    have hc2 := hR.cell
    have hc3 := hM.cell
    have hpl : p.length ≤ l.length := by omega
    have hs := hB.size
    replace hrow := Lib.hid hrow
    replace hM := Lib.hid hM
    replace hR := Lib.hid hR
    replace hv := Lib.hid hv
    clear bR bM bG bS
    by_cases hle : (l.length : Int) - (p.length : Int) ≤ (m : Int)
    · have hk : p.length = l.length - m := by omega
      replace hk := Lib.hid hk
      clear hpk
      gi_wp2
      exact ⟨KeepsFrom.refl _ _, p, x, ⟨rfl, rfl, hk.out⟩, ⟨⟨_, hv.out, hrow.out⟩, hR.out, hM.out, hB, hN⟩⟩
    · have hk : Hid (p.length + 1 ≤ l.length - m) := Lib.hid (by omega)
      replace hN := Lib.hid hN
      clear hpk
      gi_wp2_with (gi_at_builtin; refine wpListIn_append_own _ rfl _ _ 38 rfl (w.heap.size + 1 + 1 + 1 + 1) 3 i0 (.int .i64 0) 1 8 Try.underlying38 hi.out hz0.out hz1.out hz2.out rfl (by decide) _ _ _ rfl (hrow.out.alloc _) ⟨W.heap.size, 0, none⟩ 1 1 [.int .i64 x] rfl rfl (cell_one_new _ _ _) (by simp [Value.oneCell']) (by unfold maxLen; omega) (by omega) (by have := hN.out; simp; omega) ?_; intro v' w1 hown' hgrow _; obtain ⟨g', cap', rfl⟩ := ownsRow_succ hown'; obtain ⟨hkeep, hv1, hv2, hr2, hk2, hb2⟩ := split_step (ws := w.heap.size) (m := p ++ [x]) hv.out hrow.out hN.out (by omega) (by omega) (rowI_snoc hown') hgrow; have hc1' := hv1.cell; have hf1' := hv1.frozen)
      have g3 := hkeep (w.heap.size + 1 + 1 + 1) (by omega) (by omega)
      have g0 := (hkeep w.heap.size (by omega) (by omega)).trans hR.out
      have g1 := (hkeep (w.heap.size + 1) (by omega) (by omega)).trans hM.out
      exact ⟨hk2.from _, ⟨hb2, g3⟩, ⟨⟨_, hv2, hr2⟩, g0, g1, hB.trans hb2, Nat.le_trans hN.out hk2.size⟩, by simp only [List.length_append, List.length_cons, List.length_nil]; exact hk.out⟩
  case' done =>
    rintro D ys W hD rfl ⟨⟨⟨v, hv, hrow⟩, hR, hM, hB, hN⟩, hpk⟩ hK
    have hq0 : min m l.length = 0 := by rw [List.length_reverse] at hpk; omega
    obtain ⟨p, hp⟩ : ∃ p, l.reverse = p := ⟨_, rfl⟩
    have hpd : p = (l.drop (min m l.length)).reverse := by rw [hq0, List.drop_zero, hp]
    rw [hp] at hrow
    clear hpk hq0 hp
  case' stop =>
    rintro D c' pre W hD ⟨j, hj, hpre⟩ ⟨p, x, ⟨rfl, hpx, hpk⟩, ⟨v, hv, hrow⟩, hR, hM, hB, hN⟩ hK
    have hpd : p = (l.drop (min m l.length)).reverse := by
      rw [hpx] at hpre
      have := drop_rev hj hpre
      have e : j + 1 = min m l.length := by
        rw [this, List.length_reverse, List.length_drop] at hpk; omega
      rw [← e]; exact this
    clear hpk hj hpre hpx
  case' done | stop =>
    obtain ⟨A', c', rfl⟩ := rowI_form hrow
    obtain ⟨q, hq⟩ : ∃ q, min m l.length = q := ⟨_, rfl⟩
    rw [hq] at hpd
    have hql : q ≤ l.length := by omega
    have hpl : p.length + q = l.length := by rw [hpd, List.length_reverse, List.length_drop]; omega
    replace hq := Lib.hid hq
    replace hpd := Lib.hid hpd
    have hcap := H.out.cap
    have hnil := Lib.hid H.out.nil
    have hT : Hid (RowI W A q c (l.take q)) := Lib.hid ((H.out.below hB).take q hql)
    have cG := hv.cell
    have fG := hv.frozen
    have cR := hR.cell
    have hown := Lib.hid (rowI_own hrow)
    have hlt0 : w.heap.size < W.heap.size := by omega
    have hlt2 : w.heap.size + 1 + 1 < W.heap.size := by omega
    replace hv := Lib.hid hv
    replace hB := Lib.hid hB
    replace hK := Lib.hid hK
    clear hrow hR hM hN bR bM bG bS B0 B1 H1 HA hi hz0 hz1 hz2
    gi_wp2
  case done | stop =>
    have hsub : Hid (IntKind.i64.wrap ((l.length : Int) - (p.length : Int)) = (q : Int)) := Lib.hid (by rw [IntWalk.i64_in _ (by omega)]; omega)
    refine wpIn_wide.2 ?_
    refine wp_region_tail (by kernel_rfl) (fun i => if i = 9 then 4 else i + 21) 7 10 (by decide) rfl (by kernel_rfl) (by kernel_rfl) (by kernel_rfl) (fun w1 => Below W.heap.size W w1) (fun w1 w2 => Below w1.heap.size w1 w2) (fun w1 h => h) (fun w1 w2 h h' => bt h h') (fun w1 w2 h h' => bt h h')
      (tSp w.heap.size A A' l.length c p.length c' q (l.take q)) (tSp_mono _ _ _ _ _ _ _ _ _) (fun i v w1 w2 hi h _ hg => tSp_mono _ _ _ _ _ _ _ _ _ i v w1 w2 h hg) ?_
    refine ⟨?_, ?_, ?_, ?_, ?_, ?_, ?_, ?_, ?_, ?_, ?_, trivial⟩
    · intro a W2 K hR2 hm2 hdep hk hK2 _
      replace hK2 : ∀ v w', v = .slice A l.length c → Below W2.heap.size W2 w' → K (a.put (some 21) v) w' := hK2
      have f2 : a.tmps.getD 2 undef = .pointer (some ⟨w.heap.size, 0, none⟩) := hk 2 (by kernel_rfl)
      have kc : W2.cell? ⟨w.heap.size, 0, none⟩ = some (.slice A l.length c) := (hR2.cell (p := ⟨w.heap.size, 0, none⟩) hlt0).trans cR
      clear hdep hk hm2 hR2
      go_simp
      exact hK2 _ _ rfl (Below.refl _ _)
    · intro a W2 K hR2 hm2 hdep hk hK2 _
      replace hK2 : ∀ v w', v = .slice A l.length c → Below W2.heap.size W2 w' → K (a.put (some 22) v) w' := hK2
      have f2 : a.tmps.getD 2 undef = .pointer (some ⟨w.heap.size, 0, none⟩) := hk 2 (by kernel_rfl)
      have kc : W2.cell? ⟨w.heap.size, 0, none⟩ = some (.slice A l.length c) := (hR2.cell (p := ⟨w.heap.size, 0, none⟩) hlt0).trans cR
      clear hdep hk hm2 hR2
      go_simp
      exact hK2 _ _ rfl (Below.refl _ _)
    · intro a W2 K hR2 hm2 hdep hk hK2 _
      replace hK2 : ∀ v w', v = .int .i64 l.length → Below W2.heap.size W2 w' → K (a.put (some 23) v) w' := hK2
      have d1 : a.tmps.getD 22 undef = .slice A l.length c := hdep ⟨1, .data⟩ (by simp) rfl (by decide)
      clear hdep hk hm2 hR2
      go_simp
      exact hK2 _ _ rfl (Below.refl _ _)
    · intro a W2 K hR2 hm2 hdep hk hK2 _
      replace hK2 : ∀ v w', v = .slice A' p.length c' → Below W2.heap.size W2 w' → K (a.put (some 24) v) w' := hK2
      have f5 : a.tmps.getD 5 undef = .pointer (some ⟨w.heap.size + 1 + 1, 0, none⟩) := hk 5 (by kernel_rfl)
      have kc : W2.cell? ⟨w.heap.size + 1 + 1, 0, none⟩ = some (.slice A' p.length c') := (hR2.cell (p := ⟨w.heap.size + 1 + 1, 0, none⟩) hlt2).trans cG
      clear hdep hk hm2 hR2
      go_simp
      exact hK2 _ _ rfl (Below.refl _ _)
    · intro a W2 K hR2 hm2 hdep hk hK2 _
      replace hK2 : ∀ v w', v = .int .i64 p.length → Below W2.heap.size W2 w' → K (a.put (some 25) v) w' := hK2
      have d3 : a.tmps.getD 24 undef = .slice A' p.length c' := hdep ⟨3, .data⟩ (by simp) rfl (by decide)
      clear hdep hk hm2 hR2
      go_simp
      exact hK2 _ _ rfl (Below.refl _ _)
    · intro a W2 K hR2 hm2 hdep hk hK2 _
      replace hK2 : ∀ v w', v = .int .i64 q → Below W2.heap.size W2 w' → K (a.put (some 26) v) w' := hK2
      have d2 : a.tmps.getD 23 undef = .int .i64 l.length := hdep ⟨2, .data⟩ (by simp) rfl (by decide)
      have d4 : a.tmps.getD 25 undef = .int .i64 p.length := hdep ⟨4, .data⟩ (by simp) rfl (by decide)
      have hsub := hsub.out
      clear hdep hk hm2 hR2
      go_simp
      exact hK2 _ _ rfl (Below.refl _ _)
    · intro a W2 K hR2 hm2 hdep hk hK2 _
      replace hK2 : ∀ v w', v = .slice A q c → Below W2.heap.size W2 w' → K (a.put (some 27) v) w' := hK2
      have d0 : a.tmps.getD 21 undef = .slice A l.length c := hdep ⟨0, .data⟩ (by simp) rfl (by decide)
      have d5 : a.tmps.getD 26 undef = .int .i64 q := hdep ⟨5, .data⟩ (by simp) rfl (by decide)
      clear hdep hk hm2 hR2
      rcases A with _ | A0
      · obtain rfl : c = 0 := hnil.out rfl
        obtain rfl : q = 0 := by omega
        go_simp
        exact hK2 _ _ rfl (Below.refl _ _)
      · have hqc : (q : Int) ≤ (c : Int) := by omega
        have hq0 : (0 : Int) ≤ (q : Int) := by omega
        go_simp
        exact hK2 _ _ rfl (Below.refl _ _)
    · intro a W2 K hR2 hm2 hdep hk hK2 _
      replace hK2 : ∀ v w', OwnI w' w.heap.size v (l.take q) → Below W2.heap.size W2 w' → K (a.put (some 28) v) w' := hK2
      have d6 : a.tmps.getD 27 undef = .slice A q c := hdep ⟨6, .data⟩ (by simp) rfl (by decide)
      clear hdep hk hm2
      go_simp
      refine (clone_any (hT.out.below hR2) (by rw [List.length_take]; omega)).mono ?_
      rintro e w2 ⟨A2, c2, rfl, o2, hb2⟩
      exact hK2 _ _ (SliceP.Own.base o2 (Nat.le_trans hB.out.size hR2.size)) hb2
    · intro a W2 K hR2 hm2 hdep hk hK2 _
      replace hK2 : ∀ v w', v = .slice A' p.length c' → Below W2.heap.size W2 w' → K (a.put (some 29) v) w' := hK2
      have f5 : a.tmps.getD 5 undef = .pointer (some ⟨w.heap.size + 1 + 1, 0, none⟩) := hk 5 (by kernel_rfl)
      have kc : W2.cell? ⟨w.heap.size + 1 + 1, 0, none⟩ = some (.slice A' p.length c') := (hR2.cell (p := ⟨w.heap.size + 1 + 1, 0, none⟩) hlt2).trans cG
      clear hdep hk hm2 hR2
      go_simp
      exact hK2 _ _ rfl (Below.refl _ _)
    · intro a W2 K hR2 hm2 hdep hk hK2 _
      replace hK2 : ∀ v w', OwnI w' w.heap.size v (l.take q) → Below W2.heap.size W2 w' → K (a.put (some 4) v) w' := hK2
      have d7 : OwnI W2 w.heap.size (a.tmps.getD 28 undef) (l.take q) := hdep ⟨7, .data⟩ (by simp) rfl (by decide)
      obtain ⟨v7, h7⟩ : ∃ v7, a.tmps.getD 28 undef = v7 := ⟨_, rfl⟩
      rw [h7] at d7
      replace d7 := Lib.hid d7
      clear hdep hk hm2 hR2
      go_simp
      exact hK2 _ _ d7.out (Below.refl _ _)
    · intro a W2 K hR2 _ _ hk hK2 hall
      replace hK2 : ∀ w', (∀ j, j < 10 → tSp w.heap.size A A' l.length c p.length c' q (l.take q) j (a.tmps.getD (if j = 9 then 4 else j + 21) undef) W2) → _ → _ → _ → K a w' := hK2
      obtain ⟨hsp, hn, hdf⟩ := hall rfl
      have h29 : a.tmps.getD 29 undef = .slice A' p.length c' := hsp 8 (by decide)
      have h4 : OwnI W2 w.heap.size (a.tmps.getD 4 undef) (l.take q) := hsp 9 (by decide)
      have s5 : a.tmps.getD 5 undef = .pointer (some ⟨w.heap.size + 1 + 1, 0, none⟩) := hk 5 (by kernel_rfl)
      have kc : W2.cell? ⟨w.heap.size + 1 + 1, 0, none⟩ = some (.slice A' p.length c') := (hR2.cell (p := ⟨w.heap.size + 1 + 1, 0, none⟩) hlt2).trans cG
      have kf : W2.frozen? ⟨w.heap.size + 1 + 1, 0, none⟩ = false := (hR2.frozen (p := ⟨w.heap.size + 1 + 1, 0, none⟩) hlt2).trans fG
      have hbx : Boxed W2 (w.heap.size + 1 + 1) 38 (.slice A' p.length c') := (hR2.block _ hlt2).trans hv.out
      have hbs := below_set hbx
      have hKK := Lib.hid (hK2 (W2.setCell ⟨w.heap.size + 1 + 1, 0, none⟩ (.slice A' p.length c')) hsp hn hdf)
      have hK2' : W2.heap[D]? = some (.deferred (some [])) := (hR2.block D ((Array.getElem?_eq_some_iff.1 hK.out).1)).trans hK.out
      have hK' := Lib.hid ((KeepsOthers.setCell W2 ⟨w.heap.size + 1 + 1, 0, none⟩ (.slice A' p.length c')).same D _ hK2' rfl)
      have hDw : w.heap.size ≤ D := by simp at hD; omega
      have hb3 := Lib.hid ((hB.out.trans (hR2.mono hB.out.size)).trans (hbs.mono (Nat.le_trans hB.out.size hR2.size)))
      have o1 := Lib.hid (h4.below hbs)
      have o3 := Lib.hid (SliceP.Own.base ((hown.out.below hR2).below hbs) (B' := w.heap.size) (by omega))
      have cB := Lib.hid (hbx.set (.slice A' p.length c')).cell
      clear hK2 hsp hall hk hbs hbx hK2' h4
      replace hR2 := Lib.hid hR2
      go_simp
      refine hKK.out ?_
      clear hKK kc kf h29
      show Exit.then _ _ _ _ _
      simp only [Exit.then]
      gi_wp2
      obtain ⟨tm, df⟩ := a
      replace hdf : df = [{ target := .collected D, args := #[] }] := hdf
      subst hdf
      refine ⟨by simp, .inl ⟨_, _, rfl, run_takeDeferred hK'.out, ?_⟩⟩
      have c5 := cell_kept cB.out (grownBy_putObj' _ D (.deferred none)) (fun r e => by cases e; exact ⟨_, hK'.out, rfl⟩)
      replace o1 := o1.out
      obtain ⟨v4, h4v⟩ : ∃ v4, tm.getD 4 undef = v4 := ⟨_, rfl⟩
      replace o1 : OwnI (W2.setCell ⟨w.heap.size + 1 + 1, 0, none⟩ (.slice A' p.length c')) w.heap.size v4 (l.take q) := by rw [← h4v]; exact o1
      obtain ⟨A2, c2, rfl⟩ := OwnI.form' o1
      refine ⟨.tuple #[.slice A2 (l.take q).length c2, .slice A' p.length c'], ?_, ?_⟩
      · replace s5 : tm.getD 5 undef = .pointer (some ⟨w.heap.size + 1 + 1, 0, none⟩) := s5
        simp [go_sem] at h4v s5
        simp [results, Try.f23, go_sem, h4v, s5, c5]
      · rw [hq.out, ← hpd.out]
        exact ⟨A2, c2, A', c', rfl, ⟨ownsRow_putObj o1.row _ hK'.out rfl, o1.whole⟩, ⟨ownsRow_putObj o3.out.row _ hK'.out rfl, o3.out.whole⟩, hb3.out.trans (belowK_b (w := w) (Nat.le_refl _) _ D _ _ hDw hK'.out rfl rfl)⟩
end Go.Proofs.Ytcaafpgnbkebaaa.LruP
