/-
  Contracts of relay's iterator (ways), for every body of a loop over it.
-/
import Derived.Test.YtajihgpkaklgiaaRelIA
import Derived.RangeFuncNested
import Derived.RangeFuncBound
import Derived.RangeFuncCalls
import Derived.RangeFuncLeaves
import Derived.RangeFuncBox
import Derived.Shelf.Abstract
import Derived.Shelf.RegionOpen
import Derived.OwnWalkIn
import Derived.TacticsInMore
import Derived.LoopNIn
import Derived.LoopIn
import Derived.Maps.AppendAt
namespace Go.Proofs.Ytajihgpkaklgiaa.RelP
open Go.RowKit Go.Sort Go.Shelf Go.Proofs.Ytajihgpkaklgiaa.SliceP Go.Proofs.Ytajihgpkaklgiaa.BoxP
open Go.Proofs.Ytajihgpkaklgiaa.IntP (RowI SlI OwnI)
set_option linter.unusedVariables false
set_option maxRecDepth 100000
attribute [local go_sem] Oper.semAt_some
theorem grownN {w w' : World} (h : Below w.heap.size w w') : w.grownBy w' none := ⟨h.os, h.tape, h.output, h.size, fun k hk _ => h.block k hk⟩
abbrev upto (zs : List St) (p k : Nat) : List Int := (List.range k).flatMap (fl zs p)
theorem fl_none {zs : List St} {p k : Nat} (h : ¬ ((st zs p).1 = 3 ∧ (st zs k).1 = 3 ∧ k ≠ p)) : fl zs p k = [] := by unfold fl; rw [if_neg h]
theorem upto_none {zs : List St} {p k : Nat} (h : ¬ ((st zs p).1 = 3 ∧ (st zs k).1 = 3 ∧ k ≠ p)) : upto zs p (k + 1) = upto zs p k := by
  show (List.range (k + 1)).flatMap (fl zs p) = _
  rw [flat_succ, fl_none h, List.append_nil]
theorem upto_some {zs : List St} {p k : Nat} (h : (st zs p).1 = 3 ∧ (st zs k).1 = 3 ∧ k ≠ p) : upto zs p (k + 1) = upto zs p k ++ [(k : Int)] := by
  show (List.range (k + 1)).flatMap (fl zs p) = _
  rw [flat_succ]
  exact congrArg (upto zs p k ++ ·) (if_pos h)
theorem flood_off {zs : List St} {p : Nat} (h : (st zs p).1 ≠ 3) : flood zs p = [] := by
  unfold flood
  rw [List.flatMap_eq_nil_iff]
  intro k _
  exact fl_none (fun h2 => h h2.1)
theorem upto_pre (zs : List St) (p : Nat) : ∀ (d k : Nat), upto zs p k <+: upto zs p (k + d)
  | 0, k => List.prefix_rfl
  | d + 1, k => by
    refine (upto_pre zs p d k).trans ?_
    show _ <+: (List.range (k + d + 1)).flatMap (fl zs p)
    rw [flat_succ]
    exact List.prefix_append _ _
theorem upto_flood {zs : List St} {p k : Nat} (h : k ≤ zs.length) : upto zs p k <+: flood zs p := by
  have := upto_pre zs p (zs.length - k) k
  rwa [show k + (zs.length - k) = zs.length by omega] at this
set_option maxHeartbeats 4000000 in
theorem ways_in (F : Fence) (n : Nat) (hf : F.fn 19) (hro : F.round = none) (A : Option Addr) (k c : Nat) (p : Int) (w : World) :
    CallsIn F n Try.prog 19 #[.slice A k c, .int .i64 p] w fun e w' => e = .returned (.func (.func 26) #[] #[.pointer (some ⟨w.heap.size, 0, none⟩), .pointer (some ⟨w.heap.size + 1, 0, none⟩)]) ∧ w' = (w.alloc (.cells #[.slice A k c] 22)).alloc (.cells #[.int .i64 p] 3) := by
  refine callsIn_of_wp Try.func19 rfl hf ?_ hro
  simp only [Try.ntmps19, List.size_toArray, List.length_cons, List.length_nil, Nat.reduceAdd, Nat.reduceSub, Array.replicate_succ, Array.replicate_zero, List.push_toArray, List.append_toArray, List.nil_append, List.cons_append]
  gi_wp2
  go_ret
  exact ⟨rfl, rfl⟩
set_option maxHeartbeats 8000000 in
theorem ways1_in (n : Nat) (hn : 1 ≤ n) (l Bs : Nat) (A : Option Addr) (cap : Nat) (zs : List St) (p : Nat) (w : World) (hlt : Bs + 1 < w.heap.size)
    (hB0 : w.cell? ⟨Bs, 0, none⟩ = some (.slice A zs.length cap)) (hB1 : w.cell? ⟨Bs + 1, 0, none⟩ = some (.int .i64 (p : Int))) (hr : RowP w A zs.length cap zs) (hp : p < zs.length) (hl : zs.length ≤ 1000)
    (J Jx : List Int → World → Prop) (W : World) (hW : Below w.heap.size w W) (hJ : AbidesFrom W.heap.size J)
    (hY : ∀ pre x W1, J pre W1 → pre.length < zs.length → YieldAt Fence.wide (n - 1) Try.prog l #[.int .i64 x] W1 fun e W' =>
      (e = .returned (.bool true) ∧ J (pre ++ [x]) W' ∧ Below w.heap.size W1 W') ∨ (e = .returned (.bool false) ∧ Jx (pre ++ [x]) W'))
    (h0 : J [] W) :
    CallsIn Fence.wide n Try.prog 26 #[.func (.yield l) #[] #[], .pointer (some ⟨Bs, 0, none⟩), .pointer (some ⟨Bs + 1, 0, none⟩)] W fun e W' => (∃ v, e = .returned v) ∧
      ((∃ ys, ys = flood zs p ∧ J ys W') ∨ (∃ pre, pre <+: flood zs p ∧ Jx pre W')) := by
  have hj0 := fun (W : World) (h : Below w.heap.size w W) => (h.cell (p := ⟨Bs, 0, none⟩) (by show Bs < _; omega)).trans hB0
  have hj1 := fun (W : World) (h : Below w.heap.size w W) => (h.cell (p := ⟨Bs + 1, 0, none⟩) (by show Bs + 1 < _; omega)).trans hB1
  replace hr := Lib.hid hr
  replace hj0 := Lib.hid hj0
  replace hj1 := Lib.hid hj1
  clear hB0 hB1
  obtain ⟨x, hx⟩ : ∃ x, st zs p = x := ⟨_, rfl⟩
  obtain ⟨f, hf⟩ : ∃ f, decide (x.1 = 3) = f := ⟨_, rfl⟩
  obtain ⟨bS, oS, hAS, hbS, q0, q1⟩ := SlP.at_ (hr.out.below hW).sl (st_at hp)
  subst hAS
  rw [hx] at q0 q1
  have c0 := hj0.out W hW
  have c1 := hj1.out W hW
  have hpl : (p : Int) < (zs.length : Int) := by omega
  have hG : Hid (∀ wr, Below W.heap.size W wr → J [] wr) := Lib.hid fun wr h => hJ _ _ _ none h0 (grownN h) (fun r e => by cases e)
  replace hW := Lib.hid hW
  replace hJ := Lib.hid hJ
  replace hY := Lib.hid hY
  refine callsIn_of_wp Try.func26 rfl trivial ?_ rfl
  simp only [Try.ntmps26, List.size_toArray, List.length_cons, List.length_nil, Nat.reduceAdd, Nat.reduceSub, Array.replicate_succ, Array.replicate_zero, List.push_toArray, List.append_toArray, List.nil_append, List.cons_append]
  cases f
  · have hne := Lib.hid (flood_off (zs := zs) (p := p) (by rw [hx]; simpa using hf))
    replace hx := Lib.hid hx
    replace hf := Lib.hid hf
    gi_wp2_with (refine ⟨trivial, ?_⟩; gi_at_call 27; refine (callsIn_wide.2 (i_forwards _ _ _ hf.out)).mono ?_; rintro e w9 ⟨rfl, hb9⟩)
    refine bodyPost_ret (results_none rfl _ _ _) rfl ?_
    exact ⟨⟨_, rfl⟩, .inl ⟨_, hne.out.symm, hG.out _ hb9⟩⟩
  · have hx3 : Hid ((st zs p).1 = 3) := Lib.hid (by rw [hx]; simpa using hf)
    replace hx := Lib.hid hx
    replace hf := Lib.hid hf
    gi_wp2_with (refine ⟨trivial, ?_⟩; gi_at_call 27; refine (callsIn_wide.2 (i_forwards _ _ _ hf.out)).mono ?_; rintro e w9 ⟨rfl, hb9⟩; have hB9 := hW.out.trans (hb9.mono hW.out.size); have c09 := hj0.out _ hB9; have c19 := hj1.out _ hB9)
    have hG9 := Lib.hid (hG.out _ hb9)
    have hB9' := Lib.hid hB9
    clear c0 c1 q0 q1 hbS c19 hB9 hx hf hpl
    gi_loopw [14] (fun i wr => ∃ k : Nat, k ≤ zs.length ∧ i = .int .i64 k ∧ J (upto zs p k) wr ∧ Below w.heap.size w wr) (fun i _ => zs.length - (intOf i).toNat)
    case atStart => exact ⟨0, by omega, rfl, hG9.out, hB9'.out⟩
    case round =>
      obtain ⟨k, hk, rfl, hJs, hb⟩ := hrel
      by_cases hkn : k < zs.length
      · have hkl : (k : Int) < (zs.length : Int) := by omega
        obtain ⟨y, hy⟩ : ∃ y, st zs k = y := ⟨_, rfl⟩
        obtain ⟨b, o, hAS, hbS, q0, q1⟩ := SlP.at_ (hr.out.below hb).sl (st_at hkn)
        injection hAS with hAS
        injection hAS with e1 e2 e3
        subst e1 e2
        rw [hy] at q0 q1
        have hs := hb.size
        have hB8 : Below w.heap.size w (wr.alloc (.cells #[.int .i64 y.1, .int .i64 y.2] 36)) := hb.trans (((Below.refl _ wr).alloc (Nat.le_refl _) _).mono hs)
        have c18 := hj1.out _ hB8
        have hJ8 : ∀ w9, Below (wr.alloc (.cells #[.int .i64 y.1, .int .i64 y.2] 36)).heap.size (wr.alloc (.cells #[.int .i64 y.1, .int .i64 y.2] 36)) w9 → Below wr.heap.size wr w9 := fun w9 h => bt ((Below.refl _ wr).alloc (Nat.le_refl _) _) h
        have hJn : ∀ w9, Below wr.heap.size wr w9 → J (upto zs p k) w9 := fun w9 h => hJ.out _ _ _ none hJs (grownN h) (fun r e => by cases e)
        replace hy := Lib.hid hy
        replace hb := Lib.hid hb
        replace hJ8 := Lib.hid hJ8
        replace hJn := Lib.hid hJn
        replace hB8 := Lib.hid hB8
        clear hJs
        by_cases hkp : k = p
        · subst hkp
          have hu := Lib.hid (upto_none (zs := zs) (p := k) (k := k) (fun h => h.2.2 rfl))
          have hne : ((k : Int) != (k : Int)) = false := by simp
          gi_wp2
          refine ⟨trivial, ?_⟩
          gi_wp2
          refine ⟨fun _ h => (by cases h), ?_⟩
          gi_wp2
          go_roundw
          case rel =>
            have hb1 := (Below.refl wr.heap.size wr).alloc (Nat.le_refl _) (.cells #[.int .i64 y.1, .int .i64 y.2] 36)
            exact ⟨k + 1, by omega, by go_num, by rw [hu.out]; exact hJn.out _ hb1, hb.out.trans (hb1.mono hs)⟩
          case measure => simp [intOf]; omega
        · have hne : ((k : Int) != (p : Int)) = true := by simp; omega
          have hkp' := Lib.hid hkp
          clear hkp
          obtain ⟨g, hg⟩ : ∃ g, decide (y.1 = 3) = g := ⟨_, rfl⟩
          cases g
          · have hu := Lib.hid (upto_none (zs := zs) (p := p) (k := k) (fun h => by have := h.2.1; rw [hy.out] at this; simp [this] at hg))
            replace hg := Lib.hid hg
            gi_wp2_with (refine ⟨trivial, ?_⟩; gi_at_call 27; refine (callsIn_wide.2 (i_forwards _ _ _ hg.out)).mono ?_; rintro e w8 ⟨rfl, hb8⟩)
            refine ⟨fun _ h => (by cases h), ?_⟩
            gi_wp2
            go_roundw
            case rel =>
              have hb1 := hJ8.out _ hb8
              exact ⟨k + 1, by omega, by go_num, by rw [hu.out]; exact hJn.out _ hb1, hb.out.trans (hb1.mono hs)⟩
            case measure => simp [intOf]; omega
          · have hu := Lib.hid (upto_some (zs := zs) (p := p) (k := k) ⟨hx3.out, by rw [hy.out]; simpa using hg, hkp'.out⟩)
            have hul : Hid ((upto zs p k).length < zs.length) := Lib.hid (Nat.lt_of_le_of_lt (fl_len zs p k) hkn)
            have hpre := Lib.hid (upto_flood (p := p) (show k + 1 ≤ zs.length by omega))
            replace hg := Lib.hid hg
            gi_wp2_with (refine ⟨trivial, ?_⟩; gi_at_call 27; refine (callsIn_wide.2 (i_forwards _ _ _ hg.out)).mono ?_; rintro e w8 ⟨rfl, hb8⟩; obtain ⟨fn, tmps, assign, body, hyd, hR⟩ := hY.out _ (k : Int) w8 (hJn.out _ (hJ8.out _ hb8)) hul.out)
            refine hR.mono ?_
            rintro e W3 (⟨rfl, hJ3, hk3⟩ | ⟨rfl, hJx3⟩)
            · gi_wp2
              go_roundw
              case rel =>
                have hb1 := hJ8.out _ hb8
                have hwB : Below w.heap.size w W3 := (hb.out.trans (hb1.mono hs)).trans hk3
                exact ⟨k + 1, by omega, by go_num, by rw [hu.out]; exact hJ3, hwB⟩
              case measure => simp [intOf]; omega
            · gi_wp2
              refine bodyPost_ret (results_none rfl _ _ _) rfl ?_
              exact ⟨⟨_, rfl⟩, .inr ⟨_, by rw [← hu.out]; exact hpre.out, hJx3⟩⟩
      · obtain rfl : k = zs.length := by omega
        gi_wp2
        go_end0
        exact ⟨⟨_, rfl⟩, .inl ⟨_, rfl, hJs⟩⟩
end Go.Proofs.Ytajihgpkaklgiaa.RelP
