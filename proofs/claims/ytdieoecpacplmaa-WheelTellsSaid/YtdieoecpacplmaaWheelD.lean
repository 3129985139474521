/-
  Contract of (*slots).lay.
-/
import Derived.Test.YtdieoecpacplmaaWheelC
namespace Go.Proofs.Ytdieoecpacplmaa.WheelP
open Go.RowKit Go.Sort Go.Proofs.Ytdieoecpacplmaa.SliceP Go.Proofs.Ytdieoecpacplmaa.MacP
set_option linter.unusedVariables false
set_option maxRecDepth 100000

theorem grown_trans {a b c : World} {r1 r2 : Option Nat} (h : a.grownBy b r1) (k : b.grownBy c r2) (hr : ∀ j, r2 = some j → a.heap.size ≤ j ∨ r1 = some j) : a.grownBy c r1 :=
  ⟨k.os.trans h.os, k.tape.trans h.tape, k.output.trans h.output, Nat.le_trans h.size k.size, fun j hj hne => by
    refine (k.block j (Nat.lt_of_lt_of_le hj h.size) fun e => ?_).trans (h.block j hj hne)
    rcases hr j e.symm with h1 | h1
    · omega
    · exact hne h1.symm⟩
theorem grown_any {a b : World} {r : Option Nat} (h : Below a.heap.size a b) : a.grownBy b r := ⟨h.os, h.tape, h.output, h.size, fun k hk _ => h.block k hk⟩
theorem Sl.grown {w w' : World} {size : Nat} {row : Option Nat} {A : Option Addr} {xs : List (List Value)} (h : Sl w size A xs) (hg : w.grownBy w' row) (hr : ∀ b o, A = some ⟨b, o, none⟩ → row ≠ some b) : Sl w' size A xs := fun hn => by
  obtain ⟨b, o, rfl, hb, hx⟩ := h hn
  exact ⟨b, o, rfl, Nat.lt_of_lt_of_le hb hg.size, fun k cs hk j v hj => (World.cell?_of_block (hg.block b hb (fun e => hr b o rfl e.symm))).trans (hx k cs hk j v hj)⟩
theorem setCell_grown (w : World) (b o : Nat) (v : Value) : w.grownBy (w.setCell ⟨b, o, none⟩ v) (some b) :=
  ⟨rfl, rfl, rfl, by simp, fun k _ hk => Below.heap_setCell _ _ _ k (fun e => hk (by rw [e]))⟩

/-- The row of the slots. -/
abbrev slotsV (sb : Nat) : Value := .slice (some ⟨sb, 0, none⟩) 64 64
abbrev OwnS (w : World) (sb : Nat) (vs : List Value) : Prop := w.ownsRow sb 54 1 (slotsV sb) 64 vs
def slotL (l : List T) (p j : Nat) : List T := l.filter fun x => dig x.due p == (j : Int)
theorem slotL_yes {l : List T} {p k d : Nat} {x : T} (hx : l[k]? = some x) (hd : dig x.due p = (d : Int)) : slotL (l.take (k + 1)) p d = slotL (l.take k) p d ++ [x] := by
  unfold slotL
  rw [List.take_add_one, hx, List.filter_append]; simp [hd]
theorem slotL_no {l : List T} {p k d j : Nat} {x : T} (hx : l[k]? = some x) (hd : dig x.due p = (d : Int)) (hj : j ≠ d) : slotL (l.take (k + 1)) p j = slotL (l.take k) p j := by
  unfold slotL
  have : (dig x.due p == (j : Int)) = false := by rw [hd]; simp; omega
  rw [List.take_add_one, hx, List.filter_append]; simp [this]
theorem slotL_length (l : List T) (p j : Nat) : (slotL l p j).length ≤ l.length := List.length_filter_le _ _

structure LayI (w : World) (sb p : Nat) (l : List T) (vs : List Value) (wr : World) : Prop where
  row : OwnS wr sb vs
  own : ∀ (j : Nat) (v : Value), vs[j]? = some v → OwnT wr w.heap.size v (slotL l p j)
  dis : ∀ (i j : Nat) (v v' : Value), i ≠ j → vs[i]? = some v → vs[j]? = some v' → v.ownBlock = none ∨ v.ownBlock ≠ v'.ownBlock
  gr : w.grownBy wr (some sb)
theorem lay_step {w wr W w1 : World} {sb p k d : Nat} {l : List T} {vs : List Value} {x : T} {vd v9 : Value} {o : Obj} (h : LayI w sb p (l.take k) vs wr) (hsb : sb < w.heap.size) (hx : l[k]? = some x) (hd : dig x.due p = (d : Int))
    (hvd : vs[d]? = some vd) (hW : W = wr.alloc o) (hg : W.grownBy w1 vd.ownBlock) (hown : OwnT w1 w.heap.size v9 (slotL (l.take k) p d ++ [x])) (hor : v9.ownBlock = vd.ownBlock ∨ ∃ g, v9.ownBlock = some g ∧ W.heap.size ≤ g) :
    LayI w sb p (l.take (k + 1)) (vs.set d v9) (w1.setCell ⟨sb, d, none⟩ v9) ∧ w1.cell? ⟨sb, d, none⟩ = some vd ∧ w1.frozen? ⟨sb, d, none⟩ = false := by
  have hwW : wr.grownBy W (some sb) := by rw [hW]; exact World.grownBy_alloc _ _ _
  have hsz : wr.heap.size ≤ W.heap.size := hwW.size
  have hvne : vd.ownBlock ≠ some sb := fun e => by have := ((h.own d vd hvd).lt sb e).1; omega
  have row1 : OwnS w1 sb vs := (by rw [hW]; exact h.row.alloc o : OwnS W sb vs).kept hg (.inr fun e => hvne e.symm)
  have hlen : vs.length = 64 := h.row.1
  have hdl : d < vs.length := (List.getElem?_eq_some_iff.1 hvd).1
  have st := World.ownsRow.stored row1 d v9
  have hgW : w.grownBy w1 (some sb) := grown_trans (grown_trans h.gr hwW (fun j hj => .inr hj)) hg (fun j hj => .inl ((h.own d vd hvd).lt j hj).1)
  have hne9 : v9.ownBlock = none ∨ v9.ownBlock ≠ some sb := .inr fun e => by have := (hown.lt sb e).1; omega
  have hold : ∀ j v, j ≠ d → vs[j]? = some v → OwnT w1 w.heap.size v (slotL (l.take k) p j) := fun j v hj hv => by
    have h1 := h.own j v hv
    have h2 : OwnT W w.heap.size v (slotL (l.take k) p j) := h1.kept hwW (.inr fun e => by have := (h1.lt sb e).1; omega)
    exact h2.kept hg (h.dis j d v vd hj hv hvd)
  refine ⟨⟨st.1, fun j v hv => ?_, fun i j v v' hij hv hv' => ?_, grown_trans hgW st.2 (fun j hj => .inr hj)⟩, ?_, World.ownsRow.frozenAt row1 d⟩
  · rw [List.getElem?_set] at hv
    by_cases hjd : d = j
    · subst hjd
      rw [if_pos rfl, if_pos hdl] at hv
      obtain rfl := Option.some.inj hv
      rw [slotL_yes hx hd]
      exact hown.kept st.2 hne9
    · rw [if_neg hjd] at hv
      rw [slotL_no hx hd (Ne.symm hjd)]
      have h2 := hold j v (Ne.symm hjd) hv
      exact h2.kept st.2 (.inr fun e => by have := (h2.lt sb e).1; omega)
  · rw [List.getElem?_set] at hv hv'
    have hlt : ∀ (j : Nat) (v : Value), vs[j]? = some v → ∀ g, v.ownBlock = some g → g < W.heap.size := fun j v hv g hg => by have := ((h.own j v hv).lt g hg).2; omega
    by_cases hi : d = i
    · subst hi
      rw [if_pos rfl, if_pos hdl] at hv
      rw [if_neg hij] at hv'
      obtain rfl := Option.some.inj hv
      rcases hor with e | ⟨g, e, hg'⟩
      · rw [e]; exact h.dis d j vd v' hij hvd hv'
      · refine .inr fun e' => ?_
        have := hlt j v' hv' g (by rw [← e', e]); omega
    · rw [if_neg hi] at hv
      by_cases hj : d = j
      · subst hj
        rw [if_pos rfl, if_pos hdl] at hv'
        obtain rfl := Option.some.inj hv'
        rcases hor with e | ⟨g, e, hg'⟩
        · rw [e]; exact h.dis i d v vd hij hv hvd
        · refine .inr fun e' => ?_
          have := hlt i v hv g (by rw [e', e]); omega
      · rw [if_neg hj] at hv'
        exact h.dis i j v v' hij hv hv'
  · rw [World.ownsRow.cellAt row1 d (by omega)]; exact hvd

def lVal (sb nb d : Nat) (vd : Value) (x : T) : Nat → Value
  | 0 => .pointer (some ⟨sb, 0, none⟩)
  | 1 => .int .i64 d
  | 2 => .pointer (some ⟨sb, 0, none⟩)
  | 3 => .int .i64 d
  | 4 => .pointer (some ⟨sb, 0, none⟩)
  | 5 => .pointer (some ⟨sb, d, none⟩)
  | 6 => vd
  | 7 => tv x.id x.due
  | 10 => .pointer (some ⟨sb, 0, none⟩)
  | 11 => .pointer (some ⟨sb, d, none⟩)
  | _ => undef
def lLit (B : Nat) (x : T) (v : Value) (w : World) : Prop := ∃ b, v = .slice (some ⟨b, 0, none⟩) 1 1 ∧ B ≤ b ∧ b < w.heap.size ∧ SlT w (some ⟨b, 0, none⟩) [x]
def lNew (Bw B : Nat) (vd : Value) (xs : List T) (v : Value) (w : World) : Prop := OwnT w Bw v xs ∧ (v.ownBlock = vd.ownBlock ∨ ∃ g, v.ownBlock = some g ∧ B ≤ g)
def lSp (Bw B sb nb d : Nat) (vd : Value) (x : T) (xs : List T) (i : Nat) (v : Value) (w : World) : Prop := if i = 8 then lLit B x v w else if i = 9 then lNew Bw B vd (xs ++ [x]) v w else v = lVal sb nb d vd x i
theorem lSp_mono (Bw B sb nb d : Nat) (vd : Value) (x : T) (xs : List T) (i : Nat) (v : Value) (w w' : World) (h : lSp Bw B sb nb d vd x xs i v w) (hb : Below w.heap.size w w') : lSp Bw B sb nb d vd x xs i v w' := by
  unfold lSp at *
  split
  · rw [if_pos (by assumption)] at h
    obtain ⟨b, rfl, h1, h2, h3⟩ := h
    exact ⟨b, rfl, h1, Nat.lt_of_lt_of_le h2 hb.size, h3.below hb⟩
  · rw [if_neg (by assumption)] at h
    split
    · rw [if_pos (by assumption)] at h
      exact ⟨h.1.below hb, h.2⟩
    · rw [if_neg (by assumption)] at h; exact h
theorem lSp_monoM (Bw B sb nb d : Nat) (vd : Value) (x : T) (xs : List T) (i : Nat) (v : Value) (w w' : World) (hi : i ≠ 9) (h : lSp Bw B sb nb d vd x xs i v w) (hg : w.grownBy w' vd.ownBlock) (hlt : ∀ g, vd.ownBlock = some g → g < B) : lSp Bw B sb nb d vd x xs i v w' := by
  unfold lSp at *
  split
  · rw [if_pos (by assumption)] at h
    obtain ⟨b, rfl, h1, h2, h3⟩ := h
    refine ⟨b, rfl, h1, Nat.lt_of_lt_of_le h2 hg.size, Sl.grown h3 hg fun b' o' e he => ?_⟩
    obtain ⟨rfl, rfl⟩ : b = b' ∧ 0 = o' := by simpa using e
    have := hlt b he; omega
  · rw [if_neg (by assumption)] at h
    rw [if_neg hi] at h
    first | exact h | (rw [if_neg hi]; exact h)

set_option maxHeartbeats 4000000 in
theorem lay_any (A : Option Addr) (cap sb p : Nat) (l : List T) (w : World) (hp : p ≤ 6) (hl : l.length ≤ 1000) (h : SlT w A l) (hA : ∀ b o, A = some ⟨b, o, none⟩ → l ≠ [] → b ≠ sb) (hsb : sb < w.heap.size) (hok : ∀ x ∈ l, timeB x.due = true)
    (hs : OwnS w sb (List.replicate 64 (.slice none 0 0))) :
    Calls Try.prog 30 #[.pointer (some ⟨sb, 0, none⟩), .slice A l.length cap, .int .i64 p] w fun e w' => e = .returned (.tuple #[]) ∧ ∃ vs, LayI w sb p l vs w' := by
  have H := Lib.hid h
  have HS := Lib.hid hs
  have HK := Lib.hid hok
  have HA := Lib.hid hA
  clear h hs hok hA
  go_enter Try.func30, Try.ntmps30
  go_wp2_with fail
  go_loopw [11] (fun i wr => ∃ k : Nat, k ≤ l.length ∧ i = .int .i64 k ∧ ∃ vs, LayI w sb p (l.take k) vs wr) (fun i _ => l.length - (intOf i).toNat)
  case atStart =>
    refine ⟨0, by omega, rfl, _, HS.out, fun j v hv => ?_, fun i j v v' _ hv _ => ?_, World.grownBy.refl _ _⟩
    · rw [List.getElem?_replicate] at hv
      split at hv
      · obtain rfl := Option.some.inj hv
        exact Own.nil _ _ _ _
      · cases hv
    · rw [List.getElem?_replicate] at hv
      split at hv
      · obtain rfl := Option.some.inj hv
        exact .inl rfl
      · cases hv
  case round =>
    obtain ⟨k, hk, rfl, vs, hI⟩ := hrel
    by_cases hlk : k < l.length
    · obtain ⟨x, hx⟩ : ∃ x, l[k]? = some x := ⟨_, List.getElem?_eq_getElem hlk⟩
      obtain ⟨b, o, rfl, hbw, x0, x1⟩ := SlT.at_ H.out hx
      have hbs : b ≠ sb := HA.out b o rfl (fun e => by rw [e] at hlk; simp at hlk)
      have hgc : ∀ j, wr.cell? ⟨b, j, none⟩ = w.cell? ⟨b, j, none⟩ := fun j => World.cell?_of_block (hI.gr.block b hbw (by simpa using hbs))
      replace x0 := (hgc _).trans x0
      replace x1 := (hgc _).trans x1
      clear hgc
      have hs0 := hI.gr.size
      have ht : timeB x.due = true := HK.out x (List.mem_of_getElem? hx)
      have ht0 : 0 ≤ x.due := by unfold timeB at ht; simp at ht; exact ht.1
      have ht1 : x.due ≤ 1099511627776 := by unfold timeB at ht; simp at ht; exact ht.2
      clear ht
      obtain ⟨d, hd, hd64⟩ : ∃ d : Nat, dig x.due p = (d : Int) ∧ d < 64 := ⟨(dig x.due p).toNat, by unfold dig; omega, by unfold dig; omega⟩
      obtain ⟨vd, hvd⟩ : ∃ vd, vs[d]? = some vd := ⟨_, List.getElem?_eq_getElem (by have := hI.row.1; omega)⟩
      obtain ⟨Ad, cd, hvq, hc0, hc1, hAd⟩ := (hI.own d vd hvd).form
      rw [flatT_length] at hvq
      subst hvq
      have hdi : (d : Int) < 64 := by omega
      have hlen := slotL_length (l.take k) p d
      rw [List.length_take] at hlen
      replace hlen : (slotL (l.take k) p d).length ≤ 1000 := by omega
      replace hI := Lib.hid hI
      replace hd := Lib.hid hd
      replace hx := Lib.hid hx
      replace hvd := Lib.hid hvd
      replace hAd := Lib.hid hAd
      replace hlen := Lib.hid hlen
      clear hc0 hc1
      have hbr : b < wr.heap.size := by omega
      go_wp2_with fail
      go_at_call 31
      (with_reducible refine (digit_any x.due p hp ht0 ht1 _).mono ?_)
      rintro e w1 ⟨rfl, rfl⟩
      rw [hd.out]
      obtain ⟨W, hW⟩ : ∃ W, W = wr.alloc (tObj x.id x.due) := ⟨_, rfl⟩
      have c0 : W.cell? ⟨wr.heap.size, 0, none⟩ = some (.int .i64 x.id) := by rw [hW]; go_simp
      have c1 : W.cell? ⟨wr.heap.size, 1, none⟩ = some (.int .i64 x.due) := by rw [hW]; go_simp
      have hzW : W.heap.size = wr.heap.size + 1 := by rw [hW]; simp
      have hrW : OwnS W sb vs := by rw [hW]; exact hI.out.row.alloc _
      have hoW : OwnT W w.heap.size (.slice Ad (slotL (l.take k) p d).length cd) (slotL (l.take k) p d) := by rw [hW]; exact (hI.out.own d _ hvd.out).below ((Below.refl _ _).alloc (Nat.le_refl _) _)
      have hdlt : ∀ g, (Value.slice Ad (slotL (l.take k) p d).length cd).ownBlock = some g → w.heap.size ≤ g ∧ g < wr.heap.size := (hI.out.own d _ hvd.out).lt
      rw [← hW]
      replace hW := Lib.hid hW
      replace hzW := Lib.hid hzW
      replace hrW := Lib.hid hrW
      replace hoW := Lib.hid hoW
      replace hdlt := Lib.hid hdlt
      clear x0 x1
      obtain ⟨vd, hv⟩ : ∃ vd, vd = Value.slice Ad (slotL (l.take k) p d).length cd := ⟨_, rfl⟩
      rw [← hv] at hvd hoW hdlt
      replace hv := Lib.hid hv
      go_wp2_with fail
      refine wp_region_tail (by kernel_rfl) (fun i => i + 19) 9 12 (by decide) rfl (by kernel_rfl) (by kernel_rfl) (by kernel_rfl) (fun w1 => W.grownBy w1 vd.ownBlock) (fun w1 w2 => w1.grownBy w2 vd.ownBlock) (fun w1 h => grown_any h) (fun w1 w2 h h' => grown_trans h (grown_none h') (fun j hj => by cases hj)) (fun w1 w2 h h' => grown_trans (grown_any h) h' (fun j hj => .inr hj))
        (lSp w.heap.size W.heap.size sb wr.heap.size d vd x (slotL (l.take k) p d)) (lSp_mono _ _ _ _ _ _ _ _) (fun i v w1 w2 hi h _ hg => lSp_monoM _ _ _ _ _ _ _ _ i v w1 w2 hi h hg (fun g hg' => by have := (hdlt.out g hg').2; have := hzW.out; omega)) ?_
      refine ⟨?_, ?_, ?_, ?_, ?_, ?_, ?_, ?_, ?_, ?_, ?_, ?_, ?_, trivial⟩
      · intro a W2 K hR hm hdep hk hK _
        replace hK : ∀ v w', v = .pointer (some ⟨sb, 0, none⟩) → Below W2.heap.size W2 w' → K (a.put (some 19) v) w' := hK
        have f0 : a.tmps.getD 0 undef = .pointer (some ⟨sb, 0, none⟩) := hk 0 (by kernel_rfl)
        clear hdep hk hm hR
        go_simp
        exact hK _ _ rfl (Below.refl _ _)
      · intro a W2 K hR hm hdep hk hK _
        replace hK : ∀ v w', v = .int .i64 d → Below W2.heap.size W2 w' → K (a.put (some 20) v) w' := hK
        have f8 : a.tmps.getD 8 undef = .int .i64 d := hk 8 (by kernel_rfl)
        clear hdep hk hm hR
        go_simp
        exact hK _ _ rfl (Below.refl _ _)
      · intro a W2 K hR hm hdep hk hK _
        replace hK : ∀ v w', v = .pointer (some ⟨sb, 0, none⟩) → Below W2.heap.size W2 w' → K (a.put (some 21) v) w' := hK
        have f0 : a.tmps.getD 0 undef = .pointer (some ⟨sb, 0, none⟩) := hk 0 (by kernel_rfl)
        clear hdep hk hm hR
        go_simp
        exact hK _ _ rfl (Below.refl _ _)
      · intro a W2 K hR hm hdep hk hK _
        replace hK : ∀ v w', v = .int .i64 d → Below W2.heap.size W2 w' → K (a.put (some 22) v) w' := hK
        have f8 : a.tmps.getD 8 undef = .int .i64 d := hk 8 (by kernel_rfl)
        clear hdep hk hm hR
        go_simp
        exact hK _ _ rfl (Below.refl _ _)
      · intro a W2 K hR hm hdep hk hK _
        replace hK : ∀ v w', v = .pointer (some ⟨sb, 0, none⟩) → Below W2.heap.size W2 w' → K (a.put (some 23) v) w' := hK
        have d2 : a.tmps.getD 21 undef = .pointer (some ⟨sb, 0, none⟩) := hdep ⟨2, .data⟩ (by simp) rfl (by decide)
        clear hdep hk hm hR
        go_simp
        exact hK _ _ rfl (Below.refl _ _)
      · intro a W2 K hR hm hdep hk hK _
        replace hK : ∀ v w', v = .pointer (some ⟨sb, d, none⟩) → Below W2.heap.size W2 w' → K (a.put (some 24) v) w' := hK
        have d4 : a.tmps.getD 23 undef = .pointer (some ⟨sb, 0, none⟩) := hdep ⟨4, .data⟩ (by simp) rfl (by decide)
        have d3 : a.tmps.getD 22 undef = .int .i64 d := hdep ⟨3, .data⟩ (by simp) rfl (by decide)
        clear hdep hk hm hR
        go_simp
        exact hK _ _ rfl (Below.refl _ _)
      · intro a W2 K hR hm hdep hk hK _
        replace hK : ∀ v w', v = vd → Below W2.heap.size W2 w' → K (a.put (some 25) v) w' := hK
        have d5 : a.tmps.getD 24 undef = .pointer (some ⟨sb, d, none⟩) := hdep ⟨5, .data⟩ (by simp) rfl (by decide)
        have kc : W2.cell? ⟨sb, d, none⟩ = some vd := ((World.ownsRow.kept hrW.out hR (.inr fun e => by have := (hdlt.out sb e.symm).1; omega)).cellAt d (by omega)).trans hvd.out
        rw [hv.out] at kc hK
        clear hdep hk hm hR
        go_simp
        exact hK _ _ rfl (Below.refl _ _)
      · intro a W2 K hR hm hdep hk hK _
        replace hK : ∀ v w', v = tv x.id x.due → Below W2.heap.size W2 w' → K (a.put (some 26) v) w' := hK
        have f7 : a.tmps.getD 7 undef = .pointer (some ⟨wr.heap.size, 0, none⟩) := hk 7 (by kernel_rfl)
        have g0 : W2.cell? ⟨wr.heap.size, 0, none⟩ = some (.int .i64 x.id) := (World.cell?_of_block (hR.block wr.heap.size (by have := hzW.out; omega) (fun e => by have := (hdlt.out _ e.symm).2; omega))).trans c0
        have g1 : W2.cell? ⟨wr.heap.size, 1, none⟩ = some (.int .i64 x.due) := (World.cell?_of_block (hR.block wr.heap.size (by have := hzW.out; omega) (fun e => by have := (hdlt.out _ e.symm).2; omega))).trans c1
        clear hdep hk hm hR
        go_simp
        exact hK _ _ rfl (Below.refl _ _)
      · intro a W2 K hR hm hdep hk hK _
        replace hK : ∀ v w', lSp w.heap.size W.heap.size sb wr.heap.size d vd x (slotL (l.take k) p d) 8 v w' → Below W2.heap.size W2 w' → K (a.put (some 27) v) w' := hK
        have d7 : a.tmps.getD 26 undef = tv x.id x.due := hdep ⟨7, .data⟩ (by simp) rfl (by decide)
        have q7 : a.tmps[26]?.getD undef = tv x.id x.due := by simpa [Array.getD_eq_getD_getElem?] using d7
        clear d7
        have hRs := hR.size
        clear hdep hk hm
        go_simp
        exact hK _ (W2.alloc (tObj x.id x.due)) ⟨W2.heap.size, rfl, hRs, by simp, sl_lit _ _ _ _ rfl⟩ ((Below.refl _ _).alloc (Nat.le_refl _) _)
      · intro a W2 K hR hm hdep hk hK _
        replace hK : ∀ v w', lSp w.heap.size W.heap.size sb wr.heap.size d vd x (slotL (l.take k) p d) 9 v w' → W2.grownBy w' vd.ownBlock → K (a.put (some 28) v) w' := hK
        have d6 : a.tmps.getD 25 undef = vd := hdep ⟨6, .data⟩ (by simp) rfl (by decide)
        obtain ⟨b8, d8, q1, q2, q3⟩ : lLit W.heap.size x (a.tmps.getD 27 undef) W2 := hdep ⟨8, .data⟩ (by simp) rfl (by decide)
        have hbel := hm rfl
        refine wp_append_sl (.tmp 25) (.tmp 27) 22 rfl elT (v := vd) d6 (hoW.out.below hbel) (ys := [x].map T.cells) (n := 1) (c := 1) d8 rfl q3 (whole [x]) (fun h => by cases h) (by rw [flatT_length, flatT_length]; have := hlen.out; simp; omega) (by have := hbel.size; have := hzW.out; omega) ?_
        intro v' w' hown hg hor
        refine hK v' w' ⟨?_, ?_⟩ hg
        · rw [← List.map_append] at hown; exact hown
        · rcases hor with h1 | h1
          · exact .inl h1
          · exact .inr ⟨_, h1, hbel.size⟩
      · intro a W2 K hR hm hdep hk hK _
        replace hK : ∀ v w', v = .pointer (some ⟨sb, 0, none⟩) → Below W2.heap.size W2 w' → K (a.put (some 29) v) w' := hK
        have d0 : a.tmps.getD 19 undef = .pointer (some ⟨sb, 0, none⟩) := hdep ⟨0, .data⟩ (by simp) rfl (by decide)
        clear hdep hk hm hR
        go_simp
        exact hK _ _ rfl (Below.refl _ _)
      · intro a W2 K hR hm hdep hk hK _
        replace hK : ∀ v w', v = .pointer (some ⟨sb, d, none⟩) → Below W2.heap.size W2 w' → K (a.put (some 30) v) w' := hK
        have d10 : a.tmps.getD 29 undef = .pointer (some ⟨sb, 0, none⟩) := hdep ⟨10, .data⟩ (by simp) rfl (by decide)
        have d1 : a.tmps.getD 20 undef = .int .i64 d := hdep ⟨1, .data⟩ (by simp) rfl (by decide)
        clear hdep hk hm hR
        go_simp
        exact hK _ _ rfl (Below.refl _ _)
      · intro a W2 K hR _ _ hk hK hall
        replace hK : ∀ w', (∀ j, j < 12 → lSp w.heap.size W.heap.size sb wr.heap.size d vd x (slotL (l.take k) p d) j (a.tmps.getD (j + 19) undef) W2) → _ → _ → _ → K a w' := hK
        obtain ⟨hsp, hn, hdf⟩ := hall rfl
        obtain ⟨hown, hor⟩ : lNew w.heap.size W.heap.size vd (slotL (l.take k) p d ++ [x]) (a.tmps.getD 28 undef) W2 := hsp 9 (by decide)
        have h30 : a.tmps.getD 30 undef = .pointer (some ⟨sb, d, none⟩) := hsp 11 (by decide)
        obtain ⟨v9, h28⟩ : ∃ v9, a.tmps.getD 28 undef = v9 := ⟨_, rfl⟩
        rw [h28] at hown hor
        obtain ⟨hstep, kc, kf⟩ := lay_step hI.out hsb hx.out hd.out hvd.out hW.out hR hown hor
        obtain ⟨A9, c9, hv9, _, _, _⟩ := hown.form
        rw [hv.out] at kc
        have hKK := Lib.hid (hK (W2.setCell ⟨sb, d, none⟩ v9) hsp hn hdf)
        clear hK hsp hall
        have s0 : a.tmps.getD 0 undef = .pointer (some ⟨sb, 0, none⟩) := hk 0 (by kernel_rfl)
        have s1 : a.tmps.getD 1 undef = .slice (some ⟨b, o, none⟩) l.length cap := hk 1 (by kernel_rfl)
        have s2 : a.tmps.getD 2 undef = .int .i64 p := hk 2 (by kernel_rfl)
        have s3 : a.tmps.getD 3 undef = undef := hk 3 (by kernel_rfl)
        have s4 : a.tmps.getD 4 undef = undef := hk 4 (by kernel_rfl)
        have s5 : a.tmps.getD 5 undef = undef := hk 5 (by kernel_rfl)
        have s6 : a.tmps.getD 6 undef = undef := hk 6 (by kernel_rfl)
        have s7 : a.tmps.getD 7 undef = .pointer (some ⟨wr.heap.size, 0, none⟩) := hk 7 (by kernel_rfl)
        have s8 : a.tmps.getD 8 undef = .int .i64 d := hk 8 (by kernel_rfl)
        have s9 : a.tmps.getD 9 undef = .slice (some ⟨b, o, none⟩) l.length cap := hk 9 (by kernel_rfl)
        have s10 : a.tmps.getD 10 undef = .int .i64 l.length := hk 10 (by kernel_rfl)
        have s11 : a.tmps.getD 11 undef = .int .i64 k := hk 11 (by kernel_rfl)
        clear hk hown hor
        replace hstep := Lib.hid hstep
        replace hR := Lib.hid hR
        simp only [flatT_length, List.length_append, List.length_cons, List.length_nil, Nat.zero_add] at hv9
        replace hv9 := Lib.hid hv9
        rw [hv9.out] at h28
        go_simp
        rw [← hv9.out]
        refine hKK.out ?_
        · obtain ⟨tm, df⟩ := a
          have e := arr_out tm 32 hn
          replace e : tm = #[tm.getD 0 undef, tm.getD 1 undef, tm.getD 2 undef, tm.getD 3 undef, tm.getD 4 undef, tm.getD 5 undef, tm.getD 6 undef, tm.getD 7 undef, tm.getD 8 undef, tm.getD 9 undef, tm.getD 10 undef, tm.getD 11 undef, tm.getD 12 undef, tm.getD 13 undef, tm.getD 14 undef, tm.getD 15 undef, tm.getD 16 undef, tm.getD 17 undef, tm.getD 18 undef, tm.getD 19 undef, tm.getD 20 undef, tm.getD 21 undef, tm.getD 22 undef, tm.getD 23 undef, tm.getD 24 undef, tm.getD 25 undef, tm.getD 26 undef, tm.getD 27 undef, tm.getD 28 undef, tm.getD 29 undef, tm.getD 30 undef, tm.getD 31 undef] := e
          simp only at s0 s1 s2 s3 s4 s5 s6 s7 s8 s9 s10 s11 hdf h28 h30
          rw [s0, s1, s2, s3, s4, s5, s6, s7, s8, s9, s10, s11] at e
          subst hdf
          clear s0 s1 s2 s3 s4 s5 s6 s7 s8 s9 s10 s11 h28 h30 hn hKK kc kf
          generalize tm.getD 12 undef = u12 at e
          generalize tm.getD 13 undef = u13 at e
          generalize tm.getD 14 undef = u14 at e
          generalize tm.getD 15 undef = u15 at e
          generalize tm.getD 16 undef = u16 at e
          generalize tm.getD 17 undef = u17 at e
          generalize tm.getD 18 undef = u18 at e
          generalize tm.getD 19 undef = u19 at e
          generalize tm.getD 20 undef = u20 at e
          generalize tm.getD 21 undef = u21 at e
          generalize tm.getD 22 undef = u22 at e
          generalize tm.getD 23 undef = u23 at e
          generalize tm.getD 24 undef = u24 at e
          generalize tm.getD 25 undef = u25 at e
          generalize tm.getD 26 undef = u26 at e
          generalize tm.getD 27 undef = u27 at e
          generalize tm.getD 28 undef = u28 at e
          generalize tm.getD 29 undef = u29 at e
          generalize tm.getD 30 undef = u30 at e
          generalize tm.getD 31 undef = u31 at e
          subst e
          show Exit.inBlock _ _ _ _ _
          simp only [Exit.inBlock, Exit.then]
          go_wp2_with fail
          go_roundw
          case rel => exact ⟨k + 1, by omega, by go_num, _, hstep.out⟩
          case measure => simp [intOf]; omega
    · obtain rfl : k = l.length := by omega
      rw [List.take_length] at hI
      replace hI := Lib.hid hI
      go_wp2_with fail
      go_end0
      exact ⟨rfl, vs, hI.out⟩
end Go.Proofs.Ytdieoecpacplmaa.WheelP
