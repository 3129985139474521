/-
  Contract of queue: queueOf.
-/
import Derived.Test.YtimpngmmmoaejaaQueueA
import Derived.Test.YtimpngmmmoaejaaQueueQ
namespace Go.Proofs.Ytimpngmmmoaejaa.ChanP
open Go.RowKit Go.Sort Go.Conc Go.Proofs.Ytimpngmmmoaejaa.SliceP Go.Proofs.Ytimpngmmmoaejaa.BoxP Go.Proofs.Ytimpngmmmoaejaa.StrP
set_option linter.unusedVariables false
set_option maxRecDepth 100000

def slLen : Value → Nat | .slice _ n _ => n | _ => 0
theorem gfresh {w0 wr w1 : World} {r row : Option Nat} (h : w0.grownBy wr r) (g : wr.grownBy w1 row) (hB : ∀ k, row = some k → w0.heap.size ≤ k) : w0.grownBy w1 r :=
  ⟨g.os.trans h.os, g.tape.trans h.tape, g.output.trans h.output, Nat.le_trans h.size g.size, fun k hk hne => (g.block k (Nat.lt_of_lt_of_le hk h.size) (fun e => by have := hB k e.symm; omega)).trans (h.block k hk hne)⟩
theorem gbelow {w0 wr w1 : World} {r : Option Nat} (h : w0.grownBy wr r) (g : Below wr.heap.size wr w1) : w0.grownBy w1 r := gfresh h (grown_none g) (fun k e => by cases e)
theorem grefl (w : World) (r : Option Nat) : w.grownBy w r := ⟨rfl, rfl, rfl, Nat.le_refl _, fun _ _ _ => rfl⟩
theorem gdown {w w0 w1 : World} {r : Option Nat} (h : Below w.heap.size w w0) (g : w0.grownBy w1 r) : w.grownBy w1 r :=
  ⟨g.os.trans h.os, g.tape.trans h.tape, g.output.trans h.output, Nat.le_trans h.size g.size, fun k hk hne => (g.block k (Nat.lt_of_lt_of_le hk h.size) hne).trans (h.block k hk)⟩
theorem gBelow {w w1 : World} {b B : Nat} (g : w.grownBy w1 (some b)) (hb : B ≤ b) (hB : B ≤ w.heap.size) : Below B w w1 := ⟨g.os, g.tape, g.output, g.size, fun k hk => g.block k (Nat.lt_of_lt_of_le hk hB) (fun e => by cases e; omega)⟩
theorem Bx.grownB {w w' : World} {q b : Nat} {T : TypeId} {vals : Array Value} (h : Bx w q T vals) (hg : w.grownBy w' (some b)) (hne : q ≠ b) : Bx w' q T vals := Bx.grown h hg (fun e => hne (by injection e))
theorem sl_grown {w w' : World} {b : Nat} {A : Option Addr} {l : List ByteArray} (h : SlS w A l) (hg : w.grownBy w' (some b)) (hne : ∀ g o, A = some ⟨g, o, none⟩ → g ≠ b) : SlS w' A l := fun hn => by
  obtain ⟨g, o, rfl, hgw, hx⟩ := h hn
  refine ⟨g, o, rfl, Nat.lt_of_lt_of_le hgw hg.size, fun k cs hk j v hj => ?_⟩
  have hb := hg.block g hgw (fun e => hne g o rfl (by injection e))
  rw [← hx k cs hk j v hj]
  unfold World.cell?
  simp only [hb]
theorem rs (w : World) (a : Act) (b : Nat) (t : Tmp) (o : Oper) (ho : o.op = .recv 50 (.tmp t) true) (ha : a.eval (.tmp t) = .chan (some b)) : (execOp a.eval o).run Try.prog w = .ok (.comm #[rcase b (.string ByteArray.empty)] true (.recv true)) w := by
  unfold execOp
  simp only [ho]
  have ha' : a.tmps.getD t undef = .chan (some b) := ha
  rw [Array.getD_eq_getD_getElem?] at ha'
  simp [go_sem, rcase]
  exact ⟨ha', rfl⟩
theorem gset {w w1 : World} {r : Option Nat} (h : w.grownBy w1 r) {p : Nat} (hp : w.heap.size ≤ p) (i : Nat) (v : Value) : w.grownBy (w1.setCell ⟨p, i, none⟩ v) r := gfresh h (setCell_grown' w1 p i v) (fun k e => by injection e with e; omega)
/-- What is handed back: a queue with these in it; but for the channel all that was there is as it was. -/
def RetQ (w : World) (b : Nat) (cap lost : Int) (l : List ByteArray) (e : Ending) (w' : World) : Prop := ∃ A c, e = .returned (qv cap (.slice A l.length c) lost) ∧ OwnS w' w.heap.size (.slice A l.length c) l ∧ w.grownBy w' (some b)
set_option maxHeartbeats 8000000 in
theorem queue_of {Am : Option Addr} {nm cm b : Nat} {l lm : List ByteArray} (cap lost : Int) (v : Value) {w : World} (hc : ChS w b l) (hm : RowS w Am nm cm lm) (hmb : ∀ g o, Am = some ⟨g, o, none⟩ → g ≠ b) (hs : l.length ≤ 100000) (hsm : lm.length ≤ 100000) :
    Calls Try.prog 19 #[qv cap v lost, .chan (some b), .slice Am nm cm] w (RetQ w b cap lost (l ++ lm)) := by
  obtain rfl := hm.len
  obtain ⟨w0, hw0⟩ : ∃ W, W = (w.alloc (qo cap v lost)).alloc (qo 0 (.slice none 0 0) 0) := ⟨_, rfl⟩
  obtain ⟨q, hq⟩ : ∃ q, q = w.heap.size + 1 := ⟨_, rfl⟩
  have B0 := Lib.hid (show Below w.heap.size w w0 by rw [hw0]; exact ((Below.refl _ _).alloc (Nat.le_refl _) _).alloc (by simp) _)
  have Y := Lib.hid (show Bx w0 w.heap.size QT #[.int .i64 cap, v, .int .i64 lost] by rw [hw0]; exact (Bx.new w _ _ rfl).alloc _)
  have X := Lib.hid (show Bx w0 q QT #[.int .i64 0, .slice none 0 0, .int .i64 0] by rw [hw0, hq]; exact Bx.new _ _ _ (by simp))
  have C := Lib.hid (hc.below B0.out)
  have M := Lib.hid (hm.below B0.out)
  have hMb := Lib.hid hmb
  have hbl := Lib.hid hc.lt
  have e1 := Lib.hid hq
  have hsz := Lib.hid B0.out.size
  clear hc hm hmb
  go_enter Try.func19, Try.ntmps19
  go_wp2_with fail
  rw [← e1.out, ← hw0]
  clear hq hw0
  go_loopw [7] (fun v7 wr => ∃ k : Nat, k ≤ l.length ∧ OwnS wr w0.heap.size v7 (l.take k) ∧ w0.grownBy wr (some b) ∧ ChS wr b (l.drop k)) (fun v7 _ => l.length - slLen v7)
  case atStart => exact ⟨0, by omega, Own.nil _ _ _ _, grefl _ _, C.out⟩
  case round =>
    obtain ⟨k, hk, hown, hg, hch⟩ := hrel
    obtain ⟨A7, c7, hv7⟩ := OwnS.form' hown
    have hlt : (l.take k).length = k := by rw [List.length_take]; omega
    rw [hlt] at hv7
    subst hv7
    obtain ⟨cp, s, r, hch⟩ := hch
    have hbr := Lib.hid (show b < wr.heap.size from (Array.getElem?_eq_some_iff.1 hch).1)
    go_upto_region 3 with fail
    by_cases hlk : k < l.length
    · obtain ⟨x, hx⟩ : ∃ x, l[k]? = some x := ⟨_, List.getElem?_eq_getElem hlk⟩
      have hd : l.drop k = x :: l.drop (k + 1) := by rw [List.drop_eq_getElem_cons hlk]; rw [List.getElem?_eq_getElem hlk] at hx; injection hx with hx; rw [hx]
      rw [hd] at hch
      have hsn := Lib.hid (show l.take (k + 1) = l.take k ++ [x] by rw [List.take_add_one, hx]; rfl)
      refine wp_region_at ?_
      refine AtOps.recv_buf rfl rfl (rs wr _ b 9 _ rfl rfl) hch (by simp [strs]) ?_
      rw [strs_rest, strs_first]
      obtain ⟨w1, hw1⟩ : ∃ W, W = wr.setChan b cp (strs (l.drop (k + 1))) true s (r + 1) false := ⟨_, rfl⟩
      rw [← hw1]
      have g1 := Lib.hid (show wr.grownBy w1 (some b) by rw [hw1]; exact grown_setChan _ _ _ _ _ _ _ _)
      have C1 := Lib.hid (show ChS w1 b (l.drop (k + 1)) by rw [hw1]; exact ⟨_, _, _, heap_setChan _ _ _ _ _ _ _ _ hbr.out⟩)
      clear hw1 hch hx hd
      have hne : ∀ j, Value.ownBlock (.slice A7 k c7) = some j → w0.heap.size ≤ j := fun j hj => (hown.lt j hj).1
      have hbw0 : b < w0.heap.size := Nat.lt_of_lt_of_le hbl.out hsz.out
      have ownK : OwnS w1 w0.heap.size (.slice A7 k c7) (l.take k) := Own.kept hown g1.out (by
        cases hv : Value.ownBlock (.slice A7 k c7) with
        | none => exact .inl rfl
        | some j => exact .inr (by have := hne j hv; simp; omega))
      have own2 := Lib.hid (ownK.below ((Below.refl _ w1).alloc (Nat.le_refl _) (.cells #[.string x] 9)))
      have hn1 : Hid ((cS (l.take k)).length + (cS [x]).length ≤ 1000000) := Lib.hid (by rw [cS_length, cS_length, hlt]; simp; omega)
      have hB2 : Hid (w0.heap.size ≤ (w1.alloc (.cells #[.string x] 9)).heap.size) := Lib.hid (by have := hg.size; have := g1.out.size; simp; omega)
      have hsl := Lib.hid (SlS.one w1 x w1.heap.size rfl)
      replace hg := Lib.hid hg
      replace hne := Lib.hid hne
      replace hlt := Lib.hid hlt
      clear ownK hown
      refine AtOps.extract rfl rfl rfl rfl rfl ?_
      refine AtOps.nil ?_
      go_wp2_with (at_builtin; (refine wpList_append_sl rfl (.tmp 13) (.tmp 15) 22 rfl elS (by rfl) own2.out (by rfl) (by rfl) hsl.out (whole [x]) (fun h => by cases h) hn1.out hB2.out ?_); intro v' w2 own1 grow1 _)
      have own3 : OwnS w2 w0.heap.size v' (l.take (k + 1)) := by rw [hsn.out]; unfold OwnS; rw [cS_append]; exact own1
      have g2 : w0.grownBy w2 (some b) := gfresh (gbelow (hg.out.trans g1.out) ((Below.refl _ w1).alloc (Nat.le_refl _) (.cells #[.string x] 9))) grow1 hne.out
      have C2 : ChS w2 b (l.drop (k + 1)) := (C1.out.below ((Below.refl _ w1).alloc (Nat.le_refl _) (.cells #[.string x] 9))).grown grow1 (fun e => by have := hne.out b e.symm; omega)
      go_roundw
      case rel => exact ⟨k + 1, by omega, own3, g2, C2⟩
      case measure =>
        obtain ⟨A9, c9, rfl⟩ := OwnS.form' own3
        simp only [slLen, List.length_take]
        omega
    · obtain rfl : k = l.length := by omega
      rw [List.drop_length] at hch
      rw [List.take_length] at hown
      refine wp_region_at ?_
      refine AtOps.recv_shut rfl rfl (rs wr _ b 9 _ rfl rfl) hch ?_
      have hsl := Lib.hid (sl_grown M.out.sl hg (fun g o e => hMb.out g o e))
      have hnil := M.out.nil
      have hne : ∀ j, Value.ownBlock (.slice A7 l.length c7) = some j → w0.heap.size ≤ j := fun j hj => (hown.lt j hj).1
      have hn2 : Hid ((cS l).length + (cS lm).length ≤ 1000000) := Lib.hid (by rw [cS_length, cS_length]; omega)
      have hnn : Hid (lm.length = (cS lm).length) := Lib.hid (cS_length _).symm
      have hB2 := Lib.hid hg.size
      replace hg := Lib.hid hg
      replace hne := Lib.hid hne
      replace hown := Lib.hid hown
      have hy := Lib.hid Y.out.lt
      have hx := Lib.hid X.out.lt
      have hwb : Hid (w.heap.size ≠ b) := Lib.hid (by have := hbl.out; omega)
      have hqw : w.heap.size ≤ q := by have := e1.out; omega
      have hwq : w.heap.size ≠ q := by have := e1.out; omega
      have hqb : Hid (q ≠ b) := Lib.hid (by have := hbl.out; have := e1.out; omega)
      refine AtOps.extract rfl rfl rfl rfl rfl ?_
      refine AtOps.nil ?_
      go_wp2_with (at_builtin; (
        refine wpList_append_sl rfl (.tmp 17) (.tmp 18) 22 rfl elS (by rfl) hown.out (by rfl) hnn.out hsl.out (whole lm) hnil hn2.out hB2.out ?_
        intro v9 w9 own9 grow9 hloc9
        have G9 := Lib.hid (gfresh hg.out grow9 hne.out)
        have Y9 := Bx.grownB Y.out G9.out hwb.out
        have X9 := Bx.grownB X.out G9.out hqb.out
        obtain ⟨y0, y1, y2⟩ := Bx.c3 Y9
        obtain ⟨x0, x1, x2⟩ := Bx.c3 X9
        have f1 := Y9.f 1
        have g0 := X9.f 0
        have g1 := X9.f 1
        have g2 := X9.f 2
        have hyl := Y9.lt
        have hxl := X9.lt
        have own10 : OwnS w9 w0.heap.size v9 (l ++ lm) := by unfold OwnS; rw [cS_append]; exact own9
        obtain ⟨A9, c9, hv⟩ := OwnS.form' own10
        obtain ⟨n9, hn9⟩ : ∃ n, n = (l ++ lm).length := ⟨_, rfl⟩
        rw [← hn9] at hv
        subst hv
        replace own10 := Lib.hid own10
        replace hn9 := Lib.hid hn9
        replace Y9 := Lib.hid Y9
        replace X9 := Lib.hid X9
        clear own9 grow9 hloc9))
      refine bodyPost_ret (v := qv cap (.slice A9 n9 c9) lost) (by simp [results, Try.results19, go_sem, x0, x1, x2]) rfl ?_
      have ownF := fun v1 v2 v3 v4 => (((own10.out.set hy.out 1 v1).set hx.out 0 v2).set hx.out 1 v3).set hx.out 2 v4
      have GF := fun v1 v2 v3 v4 => gset (gset (gset (gset (gdown B0.out G9.out) (Nat.le_refl w.heap.size) 1 v1) (show w.heap.size ≤ q by have := e1.out; omega) 0 v2) (show w.heap.size ≤ q by have := e1.out; omega) 1 v3) (show w.heap.size ≤ q by have := e1.out; omega) 2 v4
      exact ⟨A9, c9, by rw [hn9.out], by rw [← hn9.out]; exact (ownF _ _ _ _).base B0.out.size, GF _ _ _ _⟩
end Go.Proofs.Ytimpngmmmoaejaa.ChanP
