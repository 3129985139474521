/-
  The statements' few, of a queue.
-/
import Derived.Test.YtimpngmmmoaejaaQueueQ
namespace Go.Proofs.Ytimpngmmmoaejaa.StrP
open Go.RowKit Go.Sort Go.Proofs.Ytimpngmmmoaejaa.SliceP Go.Proofs.Ytimpngmmmoaejaa.BoxP
set_option linter.unusedVariables false
set_option maxRecDepth 100000

def cutS (x : ByteArray) : ByteArray := if x.size ≤ 130 then x else x.extract 0 130
set_option maxHeartbeats 8000000 in
theorem few_some {b o n c : Nat} {l : List ByteArray} (cap lost : Int) {w : World} (ht : RowS w (some ⟨b, o, none⟩) n c l) (hz : ∀ x ∈ l, x.size ≤ 9223372036854775807) (hc : c ≤ 9223372036854775807) :
    Calls Try.prog 5 #[qv cap (.slice (some ⟨b, o, none⟩) n c) lost] w fun e w' => ∃ A' c', e = .returned (qv cap (.slice A' ((l.take 40).map cutS).length c') lost) ∧ OwnS w' w.heap.size (.slice A' ((l.take 40).map cutS).length c') ((l.take 40).map cutS) ∧ Below w.heap.size w w' := by
  obtain rfl := ht.len
  obtain ⟨w2, hw2⟩ : ∃ W, W = (w.alloc (qo cap (.slice (some ⟨b, o, none⟩) l.length c) lost)).alloc (qo 0 (.slice none 0 0) 0) := ⟨_, rfl⟩
  have B2 := Lib.hid (show Below w.heap.size w w2 by rw [hw2]; exact ((Below.refl _ _).alloc (Nat.le_refl _) _).alloc (by simp) _)
  have Y2 := Lib.hid (show Bx w2 w.heap.size QT #[.int .i64 cap, .slice (some ⟨b, o, none⟩) l.length c, .int .i64 lost] by rw [hw2]; exact (Bx.new w _ _ rfl).alloc _)
  have X2 := Lib.hid (show Bx w2 (w.heap.size + 1) QT #[.int .i64 0, .slice none 0 0, .int .i64 0] by rw [hw2]; exact Bx.new _ _ _ (by simp))
  have e2 := Lib.hid (show (0 : Nat) = 0 by rfl)
  have H := Lib.hid ht
  have hcap := ht.cap
  replace hz := Lib.hid hz
  clear ht
  go_enter Try.func5, Try.ntmps5
  by_cases hN : l.length ≤ 40
  · have hN1 : (l.length : Int) ≤ 40 := by omega
    have hN2 : ¬ (40 : Int) < l.length := by omega
    go_wp2_with fail
    rw [← hw2]
    clear hw2
    go_loopw [3, 14] (fun v i wr => ∃ k : Nat, k ≤ l.length ∧ i = .int .i64 k ∧ OwnS wr w2.heap.size v ((l.take k).map cutS) ∧ Below w2.heap.size w2 wr) (fun _ i _ => l.length - (intOf i).toNat)
    case atStart => exact ⟨0, by omega, rfl, Own.nil _ _ _ _, Below.refl _ _⟩
    case round =>
      obtain ⟨k, hk, rfl, hown, hb⟩ := hrel
      replace hown := Lib.hid hown
      have hsz := hb.size
      by_cases hlk : k < l.length
      · obtain ⟨x, hx⟩ : ∃ x, l[k]? = some x := ⟨_, List.getElem?_eq_getElem (by omega)⟩
        have hbb := bt B2.out hb
        obtain ⟨b', o', hA', hbw, x0⟩ := SlS.at_ H.out.sl hx
        replace x0 := (hbb.cell (p := ⟨b', _, none⟩) hbw).trans x0
        obtain ⟨rfl, rfl⟩ : b = b' ∧ o = o' := by simpa using hA'
        clear hA'
        have hki : (k : Int) < (l.length : Int) := by omega
        have hki0 : (0 : Int) ≤ (k : Int) := by omega
        have hsn := Lib.hid (show (l.take (k + 1)).map cutS = (l.take k).map cutS ++ [cutS x] by rw [List.take_add_one, hx]; simp)
        have hxz := hz.out x (List.mem_of_getElem? hx)
        have hlen : ((l.take k).map cutS).length ≤ 40 := by rw [List.length_map, List.length_take]; omega
        replace hlen := Lib.hid hlen
        replace hb := Lib.hid hb
        clear hx hbb
        by_cases hq : x.size ≤ 130
        · have hq1 : (x.size : Int) ≤ 130 := by omega
          have hq2 : ¬ (130 : Int) < x.size := by omega
          obtain ⟨y, hy⟩ : ∃ y, y = x := ⟨_, rfl⟩
          have hc := Lib.hid (show cutS x = y by unfold cutS; rw [if_pos hq, hy])
          have own2 := Lib.hid (hown.out.below ((Below.refl _ wr).alloc (Nat.le_refl _) (.cells #[.string y] 9)))
          have hn1 : Hid ((cS ((l.take k).map cutS)).length + (cS [y]).length ≤ 1000000) := Lib.hid (by rw [cS_length, cS_length]; have := hlen.out; simp only [List.length_cons, List.length_nil]; omega)
          have hB2 : Hid (w2.heap.size ≤ (wr.alloc (.cells #[.string y] 9)).heap.size) := Lib.hid (by simp; omega)
          have hsl := Lib.hid (SlS.one wr y wr.heap.size rfl)
          rw [hy] at own2 hn1 hB2 hsl
          go_wp2_with (at_builtin; (refine wpList_append_sl rfl (.tmp 18) (.tmp 24) 22 rfl elS (by rfl) own2.out (by rfl) (by rfl) hsl.out (whole [x]) (fun h => by cases h) hn1.out hB2.out ?_); intro v' w1 own1 grow1 _)
          have B1 := (hb.out.alloc hsz (.cells #[.string (x)] 9)).grown grow1 (by simp; omega) (fun k hk => (hown.out.lt k hk).1)
          rw [← hy] at own1
          go_roundw
          case rel => exact ⟨k + 1, by omega, by go_num, by rw [hsn.out, hc.out]; unfold OwnS; rw [cS_append]; exact own1, B1⟩
          case measure => (simp [intOf]) <;> omega
        · have hq1 : ¬ (x.size : Int) ≤ 130 := by omega
          have hq2 : (130 : Int) < x.size := by omega
          obtain ⟨y, hy⟩ : ∃ y, y = x.extract 0 130 := ⟨_, rfl⟩
          have hc := Lib.hid (show cutS x = y by unfold cutS; rw [if_neg hq, hy])
          have own2 := Lib.hid (hown.out.below ((Below.refl _ wr).alloc (Nat.le_refl _) (.cells #[.string y] 9)))
          have hn1 : Hid ((cS ((l.take k).map cutS)).length + (cS [y]).length ≤ 1000000) := Lib.hid (by rw [cS_length, cS_length]; have := hlen.out; simp only [List.length_cons, List.length_nil]; omega)
          have hB2 : Hid (w2.heap.size ≤ (wr.alloc (.cells #[.string y] 9)).heap.size) := Lib.hid (by simp; omega)
          have hsl := Lib.hid (SlS.one wr y wr.heap.size rfl)
          rw [hy] at own2 hn1 hB2 hsl
          go_wp2_with (at_builtin; (refine wpList_append_sl rfl (.tmp 18) (.tmp 24) 22 rfl elS (by rfl) own2.out (by rfl) (by rfl) hsl.out (whole [x.extract 0 130]) (fun h => by cases h) hn1.out hB2.out ?_); intro v' w1 own1 grow1 _)
          have B1 := (hb.out.alloc hsz (.cells #[.string (x.extract 0 130)] 9)).grown grow1 (by simp; omega) (fun k hk => (hown.out.lt k hk).1)
          rw [← hy] at own1
          go_roundw
          case rel => exact ⟨k + 1, by omega, by go_num, by rw [hsn.out, hc.out]; unfold OwnS; rw [cS_append]; exact own1, B1⟩
          case measure => (simp [intOf]) <;> omega
      · obtain rfl : k = l.length := by omega
        obtain ⟨A9, c9, hv⟩ := OwnS.form' hown.out
        obtain ⟨n9, hn9⟩ : ∃ n, n = ((l.take l.length).map cutS).length := ⟨_, rfl⟩
        rw [← hn9] at hv
        subst hv
        have YB := Y2.out.below hb
        have XB := X2.out.below hb
        have hyl := YB.lt
        have hxl := XB.lt
        obtain ⟨y0, y1, y2⟩ := Bx.c3 YB
        obtain ⟨x0, x1, x2⟩ := Bx.c3 XB
        have f1 := YB.f 1
        have g0 := XB.f 0
        have g1 := XB.f 1
        have g2 := XB.f 2
        have hy2 := Lib.hid Y2.out.lt
        have hx2 := Lib.hid X2.out.lt
        replace hb := Lib.hid hb
        replace hn9 := Lib.hid hn9
        clear YB XB
        go_wp2_with fail
        refine bodyPost_ret (v := qv cap (.slice A9 n9 c9) lost) (by simp [results, Try.results5, go_sem, x0, x1, x2]) rfl ?_
        have ownF := fun v1 v2 v3 v4 => (((hown.out.set hy2.out 1 v1).set hx2.out 0 v2).set hx2.out 1 v3).set hx2.out 2 v4
        have BF := fun v1 v2 v3 v4 => below3 ((bt B2.out hb.out).setCell (p := ⟨w.heap.size, 1, none⟩) (Nat.le_refl _) v1) (Nat.le_succ w.heap.size) v2 v3 v4
        have hle : l.take l.length = l.take 40 := by rw [List.take_length, List.take_of_length_le hN]
        rw [hle] at ownF hn9
        exact ⟨A9, c9, by rw [hn9.out], by rw [← hn9.out]; exact (ownF _ _ _ _).base B2.out.size, BF _ _ _ _⟩
  · have hN1 : ¬ (l.length : Int) ≤ 40 := by omega
    have hN2 : (40 : Int) < l.length := by omega
    go_wp2_with fail
    rw [← hw2]
    clear hw2
    go_loopw [3, 14] (fun v i wr => ∃ k : Nat, k ≤ 40 ∧ i = .int .i64 k ∧ OwnS wr w2.heap.size v ((l.take k).map cutS) ∧ Below w2.heap.size w2 wr) (fun _ i _ => 40 - (intOf i).toNat)
    case atStart => exact ⟨0, by omega, rfl, Own.nil _ _ _ _, Below.refl _ _⟩
    case round =>
      obtain ⟨k, hk, rfl, hown, hb⟩ := hrel
      replace hown := Lib.hid hown
      have hsz := hb.size
      by_cases hlk : k < 40
      · obtain ⟨x, hx⟩ : ∃ x, l[k]? = some x := ⟨_, List.getElem?_eq_getElem (by omega)⟩
        have hbb := bt B2.out hb
        obtain ⟨b', o', hA', hbw, x0⟩ := SlS.at_ H.out.sl hx
        replace x0 := (hbb.cell (p := ⟨b', _, none⟩) hbw).trans x0
        obtain ⟨rfl, rfl⟩ : b = b' ∧ o = o' := by simpa using hA'
        clear hA'
        have hki : (k : Int) < (40 : Int) := by omega
        have hki0 : (0 : Int) ≤ (k : Int) := by omega
        have hsn := Lib.hid (show (l.take (k + 1)).map cutS = (l.take k).map cutS ++ [cutS x] by rw [List.take_add_one, hx]; simp)
        have hxz := hz.out x (List.mem_of_getElem? hx)
        have hlen : ((l.take k).map cutS).length ≤ 40 := by rw [List.length_map, List.length_take]; omega
        replace hlen := Lib.hid hlen
        replace hb := Lib.hid hb
        clear hx hbb
        by_cases hq : x.size ≤ 130
        · have hq1 : (x.size : Int) ≤ 130 := by omega
          have hq2 : ¬ (130 : Int) < x.size := by omega
          obtain ⟨y, hy⟩ : ∃ y, y = x := ⟨_, rfl⟩
          have hc := Lib.hid (show cutS x = y by unfold cutS; rw [if_pos hq, hy])
          have own2 := Lib.hid (hown.out.below ((Below.refl _ wr).alloc (Nat.le_refl _) (.cells #[.string y] 9)))
          have hn1 : Hid ((cS ((l.take k).map cutS)).length + (cS [y]).length ≤ 1000000) := Lib.hid (by rw [cS_length, cS_length]; have := hlen.out; simp only [List.length_cons, List.length_nil]; omega)
          have hB2 : Hid (w2.heap.size ≤ (wr.alloc (.cells #[.string y] 9)).heap.size) := Lib.hid (by simp; omega)
          have hsl := Lib.hid (SlS.one wr y wr.heap.size rfl)
          rw [hy] at own2 hn1 hB2 hsl
          go_wp2_with (at_builtin; (refine wpList_append_sl rfl (.tmp 18) (.tmp 24) 22 rfl elS (by rfl) own2.out (by rfl) (by rfl) hsl.out (whole [x]) (fun h => by cases h) hn1.out hB2.out ?_); intro v' w1 own1 grow1 _)
          have B1 := (hb.out.alloc hsz (.cells #[.string (x)] 9)).grown grow1 (by simp; omega) (fun k hk => (hown.out.lt k hk).1)
          rw [← hy] at own1
          go_roundw
          case rel => exact ⟨k + 1, by omega, by go_num, by rw [hsn.out, hc.out]; unfold OwnS; rw [cS_append]; exact own1, B1⟩
          case measure => (simp [intOf]) <;> omega
        · have hq1 : ¬ (x.size : Int) ≤ 130 := by omega
          have hq2 : (130 : Int) < x.size := by omega
          obtain ⟨y, hy⟩ : ∃ y, y = x.extract 0 130 := ⟨_, rfl⟩
          have hc := Lib.hid (show cutS x = y by unfold cutS; rw [if_neg hq, hy])
          have own2 := Lib.hid (hown.out.below ((Below.refl _ wr).alloc (Nat.le_refl _) (.cells #[.string y] 9)))
          have hn1 : Hid ((cS ((l.take k).map cutS)).length + (cS [y]).length ≤ 1000000) := Lib.hid (by rw [cS_length, cS_length]; have := hlen.out; simp only [List.length_cons, List.length_nil]; omega)
          have hB2 : Hid (w2.heap.size ≤ (wr.alloc (.cells #[.string y] 9)).heap.size) := Lib.hid (by simp; omega)
          have hsl := Lib.hid (SlS.one wr y wr.heap.size rfl)
          rw [hy] at own2 hn1 hB2 hsl
          go_wp2_with (at_builtin; (refine wpList_append_sl rfl (.tmp 18) (.tmp 24) 22 rfl elS (by rfl) own2.out (by rfl) (by rfl) hsl.out (whole [x.extract 0 130]) (fun h => by cases h) hn1.out hB2.out ?_); intro v' w1 own1 grow1 _)
          have B1 := (hb.out.alloc hsz (.cells #[.string (x.extract 0 130)] 9)).grown grow1 (by simp; omega) (fun k hk => (hown.out.lt k hk).1)
          rw [← hy] at own1
          go_roundw
          case rel => exact ⟨k + 1, by omega, by go_num, by rw [hsn.out, hc.out]; unfold OwnS; rw [cS_append]; exact own1, B1⟩
          case measure => (simp [intOf]) <;> omega
      · obtain rfl : k = 40 := by omega
        obtain ⟨A9, c9, hv⟩ := OwnS.form' hown.out
        obtain ⟨n9, hn9⟩ : ∃ n, n = ((l.take 40).map cutS).length := ⟨_, rfl⟩
        rw [← hn9] at hv
        subst hv
        have YB := Y2.out.below hb
        have XB := X2.out.below hb
        have hyl := YB.lt
        have hxl := XB.lt
        obtain ⟨y0, y1, y2⟩ := Bx.c3 YB
        obtain ⟨x0, x1, x2⟩ := Bx.c3 XB
        have f1 := YB.f 1
        have g0 := XB.f 0
        have g1 := XB.f 1
        have g2 := XB.f 2
        have hy2 := Lib.hid Y2.out.lt
        have hx2 := Lib.hid X2.out.lt
        replace hb := Lib.hid hb
        replace hn9 := Lib.hid hn9
        clear YB XB
        go_wp2_with fail
        refine bodyPost_ret (v := qv cap (.slice A9 n9 c9) lost) (by simp [results, Try.results5, go_sem, x0, x1, x2]) rfl ?_
        have ownF := fun v1 v2 v3 v4 => (((hown.out.set hy2.out 1 v1).set hx2.out 0 v2).set hx2.out 1 v3).set hx2.out 2 v4
        have BF := fun v1 v2 v3 v4 => below3 ((bt B2.out hb.out).setCell (p := ⟨w.heap.size, 1, none⟩) (Nat.le_refl _) v1) (Nat.le_succ w.heap.size) v2 v3 v4
        have hle : l.take 40 = l.take 40 := rfl
        rw [hle] at ownF hn9
        exact ⟨A9, c9, by rw [hn9.out], by rw [← hn9.out]; exact (ownF _ _ _ _).base B2.out.size, BF _ _ _ _⟩
end Go.Proofs.Ytimpngmmmoaejaa.StrP
