/-
  Contracts of footwayref13; few.
-/
import Derived.Test.YtajihgpkaklgiaaRelA
namespace Go.Proofs.Ytajihgpkaklgiaa.RelP
open Go.RowKit Go.Sort Go.Proofs.Ytajihgpkaklgiaa.SliceP Go.Proofs.Ytajihgpkaklgiaa.BoxP
open Go.Proofs.Ytajihgpkaklgiaa.IntP (RowI SlI OwnI)
open Go.Proofs.Ytajihgpkaklgiaa.LruP (hasI without ref_has_is ref_without_any)
set_option linter.unusedVariables false
set_option maxRecDepth 100000
set_option maxHeartbeats 8000000 in
theorem few_any {A : Option Addr} {n c : Nat} {l : List St} {w : World} (hr : RowP w A n c l) (hc : c ≤ 9223372036854775807) : Calls Try.prog 6 #[.slice A n c] w fun e w' => e = .returned (.slice A (l.take 12).length c) ∧ w = w' := by
  obtain ⟨m, hm⟩ : ∃ m, (l.take 12).length = m := ⟨_, rfl⟩
  have hlen := hr.len
  have hcap := hr.cap
  have h1 : (if (12 : Int) < (n : Int) then (12 : Int) else (n : Int)) = (m : Int) := by rw [List.length_take] at hm; split <;> omega
  have h2 : min (n : Int) 12 = (m : Int) := by rw [List.length_take] at hm; omega
  have h3 : m ≤ c := by rw [List.length_take] at hm; omega
  rw [hm]
  replace hm := Lib.hid hm
  replace hr := Lib.hid hr
  clear hlen
  go_enter Try.func6, Try.ntmps6
  go_wp2_with fail
  go_ret
  exact ⟨rfl, rfl⟩
theorem RowP.few {A : Option Addr} {n c : Nat} {l : List St} {w : World} (hr : RowP w A n c l) : RowP w A (l.take 12).length c (l.take 12) := by
  refine ⟨rfl, ?_, ?_, hr.nil⟩
  · have := Sl.take hr.sl 12
    rwa [← List.map_take] at this
  · have := hr.cap; have := hr.len; rw [List.length_take]; omega
theorem all_more {l : List St} {k : Nat} (hk : k < l.length) (h : (l.take k).all stB = true) (h2 : stB (st l k) = true) : (l.take (k + 1)).all stB = true := by
  rw [List.take_add_one, st_at hk, List.all_append, h]; simp [h2]
theorem all_bad {l : List St} {k : Nat} (hk : k < l.length) (h2 : stB (st l k) = false) : l.all stB = false := by
  rw [List.all_eq_false]; exact ⟨st l k, List.mem_of_getElem? (st_at hk), by rw [h2]; simp⟩
set_option maxHeartbeats 8000000 in
theorem r_why {A : Option Addr} {c : Nat} {l : List St} {w : World} (hr : RowP w A l.length c l) (hl : l.length ≤ 1000) (p : Int) (er : Int) (he : why l p = er) : Calls Try.prog 10 #[.slice A l.length c, .int .i64 p] w fun e w' => e = .returned (.int .i64 er) ∧ Below w.heap.size w w' := by
  have H := Lib.hid hr
  have hw := Lib.hid he
  unfold why at he
  clear hr
  go_enter Try.func10, Try.ntmps10
  go_wp2_with fail
  go_loopw [9] (fun i wr => ∃ k : Nat, k ≤ l.length ∧ i = .int .i64 k ∧ (l.take k).all stB = true ∧ Below w.heap.size w wr) (fun i _ => l.length - (intOf i).toNat)
  case atStart => exact ⟨0, by omega, rfl, rfl, Below.refl _ _⟩
  case round =>
    obtain ⟨k, hk, rfl, hall, hb⟩ := hrel
    by_cases hkn : k < l.length
    · have hkl : (k : Int) < (l.length : Int) := by omega
      obtain ⟨bS, oS, hAS, hbS, q0, q1⟩ := SlP.at_ (H.out.below hb).sl (st_at hkn)
      subst hAS
      obtain ⟨x, hx⟩ : ∃ x, st l k = x := ⟨_, rfl⟩
      rw [hx] at q0 q1
      have hsz := hb.size
      have hgood := Lib.hid fun h => all_more hkn hall (by rw [hx]; exact h)
      have hbad := Lib.hid fun h => all_bad hkn (by rw [hx]; exact h)
      have hdef : stB x = (decide (0 ≤ x.1) && decide (x.1 ≤ 3)) := rfl
      obtain ⟨w8, hw8⟩ : ∃ W, W = wr.alloc (.cells #[.int .i64 x.1, .int .i64 x.2] 36) := ⟨_, rfl⟩
      have b8 := Lib.hid (show Below w.heap.size w w8 by rw [hw8]; exact bt hb ((Below.refl _ _).alloc (Nat.le_refl _) _))
      have X8 := Lib.hid (show Bx w8 wr.heap.size 36 #[.int .i64 x.1, .int .i64 x.2] by rw [hw8]; exact Bx.new _ _ _ rfl)
      replace hx := Lib.hid hx
      clear hall hb
      go_upto_region 4 with fail
      rw [← hw8]
      clear hw8 q0 q1 hbS
      have o0 := X8.out.c (i := 0) rfl
      have zz := X8.out.lt
      by_cases h1 : x.1 < 0
      · have hs := hbad.out (by rw [hdef, decide_eq_false (by omega)]; rfl)
        rw [if_neg (by rw [hs]; simp)] at he
        subst he
        go_wp2_with fail
        go_ret
        exact ⟨rfl, b8.out⟩
      · by_cases h2 : 3 < x.1
        · have hs := hbad.out (by rw [hdef, decide_eq_false (p := x.1 ≤ 3) (by omega)]; simp)
          rw [if_neg (by rw [hs]; simp)] at he
          subst he
          go_wp2_with fail
          go_ret
          exact ⟨rfl, b8.out⟩
        · have hs := hgood.out (by rw [hdef, decide_eq_true (by omega), decide_eq_true (p := x.1 ≤ 3) (by omega)]; rfl)
          replace hs := Lib.hid hs
          replace he := Lib.hid he
          go_wp2_with fail
          go_roundw
          case rel => exact ⟨k + 1, by omega, by go_num, hs.out, b8.out⟩
          case measure => simp [intOf]; omega
    · obtain rfl : k = l.length := by omega
      rw [List.take_length] at hall
      rw [if_pos hall] at he
      replace hb := Lib.hid hb
      clear hall
      by_cases h1 : (l.length : Int) < 1
      · rw [if_pos (.inl (by omega))] at he
        subst he
        go_wp2_with fail
        go_ret
        exact ⟨rfl, hb.out⟩
      · by_cases h2 : 8 < (l.length : Int)
        · rw [if_pos (.inr (by omega))] at he
          subst he
          go_wp2_with fail
          go_ret
          exact ⟨rfl, hb.out⟩
        · rw [if_neg (by omega)] at he
          by_cases h3 : p < 0
          · rw [if_pos (.inl h3)] at he
            subst he
            go_wp2_with fail
            go_ret
            exact ⟨rfl, hb.out⟩
          · by_cases h4 : (l.length : Int) ≤ p
            · rw [if_pos (.inr h4)] at he
              subst he
              go_wp2_with fail
              go_ret
              exact ⟨rfl, hb.out⟩
            · rw [if_neg (by omega)] at he
              subst he
              go_wp2_with fail
              go_ret
              exact ⟨rfl, hb.out⟩
theorem own_lit0 (W : World) (e : TypeId) (sz B : Nat) (hB : B ≤ W.heap.size) : Own (W.alloc (.cells #[] e)) B e sz (.slice (some ⟨W.heap.size, 0, none⟩) 0 0) [] := by
  refine ⟨?_, Whole.nil⟩
  exact World.ownsRow_lit (base := B) (e := e) (size := sz) W #[] 0 hB (by unfold maxLen; omega) (by simp)
set_option maxHeartbeats 8000000 in
theorem r_flood {A : Option Addr} {c : Nat} {l : List St} {w : World} (hr : RowP w A l.length c l) (hl : l.length ≤ 1000) {p : Nat} (hp : p < l.length) : Calls Try.prog 13 #[.slice A l.length c, .int .i64 p] w fun e w' => ∃ A' c', e = .returned (.slice A' (flood l p).length c') ∧ RowI w' A' (flood l p).length c' (flood l p) ∧ (∀ a, A' = some a → w.heap.size ≤ a.block) ∧ Below w.heap.size w w' := by
  obtain ⟨w2, hw2⟩ : ∃ W, W = w.alloc (.cells #[] 3) := ⟨_, rfl⟩
  have B2 := Lib.hid (show Below w.heap.size w w2 by rw [hw2]; exact (Below.refl _ _).alloc (Nat.le_refl _) _)
  have O2 := Lib.hid (show OwnI w2 w.heap.size (.slice (some ⟨w.heap.size, 0, none⟩) 0 0) [] by rw [hw2]; exact own_lit0 w _ _ _ (Nat.le_refl _))
  have H := Lib.hid hr
  have hpl : (p : Int) < (l.length : Int) := by omega
  obtain ⟨y, hy⟩ : ∃ y, st l p = y := ⟨_, rfl⟩
  clear hr
  go_enter Try.func13, Try.ntmps13
  go_upto_region 2 with fail
  rw [← hw2]
  clear hw2
  go_wp2_with fail
  go_loopw [5, 11] (fun v i wr => ∃ (k : Nat) (L : List Int), k ≤ l.length ∧ i = .int .i64 k ∧ L = (List.range k).flatMap (fl l p) ∧ OwnI wr w.heap.size v L ∧ Below w.heap.size w wr) (fun _ i _ => l.length - (intOf i).toNat)
  case atStart => exact ⟨0, [], by omega, rfl, rfl, O2.out, B2.out⟩
  case round =>
    clear O2 B2
    obtain ⟨k, L, hk, rfl, hL, hown, hb⟩ := hrel
    obtain ⟨A3, c3, hv3⟩ := IntP.OwnI.form' hown
    subst hv3
    have hlenL := Lib.hid (show L.length ≤ k by rw [hL]; exact fl_len _ _ _)
    by_cases hkn : k < l.length
    · have hkl : (k : Int) < (l.length : Int) := by omega
      have Hr := Lib.hid (H.out.below hb)
      obtain ⟨bS, oS, hAS, hbS, q0, q1⟩ := SlP.at_ Hr.out.sl (st_at hkn)
      subst hAS
      obtain ⟨bQ, oQ, hAQ, hbQ, p0, p1⟩ := SlP.at_ Hr.out.sl (st_at hp)
      injection hAQ with hAQ
      injection hAQ with e1 e2 e3
      subst e1; subst e2
      obtain ⟨x, hx⟩ : ∃ x, st l k = x := ⟨_, rfl⟩
      rw [hx] at q0 q1
      rw [hy] at p0 p1
      have hs := flat_succ (fl l p) k
      rw [← hL] at hs
      have hf : fl l p k = if y.1 = 3 ∧ x.1 = 3 ∧ k ≠ p then [(k : Int)] else [] := by unfold fl; rw [hy, hx]
      rw [hf] at hs
      obtain ⟨w8, hw8⟩ : ∃ W, W = wr.alloc (.cells #[.int .i64 x.1, .int .i64 x.2] 36) := ⟨_, rfl⟩
      have bb8 : Below wr.heap.size wr w8 := by rw [hw8]; exact (Below.refl _ _).alloc (Nat.le_refl _) _
      have b8 := Lib.hid (bt hb bb8)
      have X8 := Lib.hid (show Bx w8 wr.heap.size 36 #[.int .i64 x.1, .int .i64 x.2] by rw [hw8]; exact Bx.new _ _ _ rfl)
      have own8 := Lib.hid (hown.below bb8)
      have P0 := (bb8.cell (p := ⟨bS, _, none⟩) hbQ).trans p0
      have zS := Nat.lt_of_lt_of_le hbQ bb8.size
      replace hx := Lib.hid hx
      replace hL := Lib.hid hL
      have hy' := Lib.hid hy
      clear hown hb bb8 p0 p1 hf hbQ
      go_upto_region 5 with fail
      rw [← hw8]
      clear hw8 q0 q1 hbS
      have o0 := X8.out.c (i := 0) rfl
      have zz := X8.out.lt
      have hskip := Lib.hid (show ¬ (y.1 = 3 ∧ x.1 = 3 ∧ k ≠ p) → (List.range (k + 1)).flatMap (fl l p) = L from fun h => by rw [hs, if_neg h, List.append_nil])
      have htake := Lib.hid (show (y.1 = 3 ∧ x.1 = 3 ∧ k ≠ p) → (List.range (k + 1)).flatMap (fl l p) = L ++ [(k : Int)] from fun h => by rw [hs, if_pos h])
      clear hs
      by_cases h1 : y.1 = 3
      · have h1' : (y.1 == 3) = true := by rw [h1]; rfl
        by_cases h2 : x.1 = 3
        · have h2' : (x.1 == 3) = true := by rw [h2]; rfl
          by_cases h3 : k = p
          · have h3' : ((k : Int) != (p : Int)) = false := by subst h3; simp
            have hs := Lib.hid (hskip.out (fun h => h.2.2 h3))
            replace h1 := Lib.hid h1
            replace h2 := Lib.hid h2
            replace h3 := Lib.hid h3
            go_wp2_with fail
            go_roundw
            case rel => exact ⟨k + 1, L, by omega, by go_num, hs.out.symm, own8.out, b8.out⟩
            case measure => simp [intOf]; omega
          · have h3' : ((k : Int) != (p : Int)) = true := by simp; omega
            have hs := Lib.hid (htake.out ⟨h1, h2, h3⟩)
            replace h1 := Lib.hid h1
            replace h2 := Lib.hid h2
            replace h3 := Lib.hid h3
            obtain ⟨w9, hw9⟩ : ∃ W, W = w8.alloc (.cells #[.int .i64 k] 3) := ⟨_, rfl⟩
            have b9 : Below w8.heap.size w8 w9 := by rw [hw9]; exact (Below.refl _ _).alloc (Nat.le_refl _) _
            have hsl := Lib.hid (show Sl w9 1 (some ⟨w8.heap.size, 0, none⟩) (IntP.cI [(k : Int)]) from bx_sl (T := 3) (vals := #[.int .i64 k]) (by rw [hw9]; exact Bx.new _ _ _ rfl) rfl (by intro c hc; simp [IntP.cI] at hc; subst hc; rfl))
            have own9 := Lib.hid (own8.out.below b9)
            have hb9 := Lib.hid (bt b8.out b9)
            have hn1 : Hid ((IntP.cI L).length + (IntP.cI [(k : Int)]).length ≤ 1000000) := Lib.hid (by rw [IntP.cI_length, IntP.cI_length]; have := hlenL.out; simp; omega)
            have hvl : Hid ((IntP.cI L).length = L.length) := Lib.hid (IntP.cI_length L)
            have hB2 : Hid (w.heap.size ≤ w9.heap.size) := Lib.hid hb9.out.size
            clear b9
            go_wp2_with (at_builtin; rw [← hw9]; (refine wpList_append_sl rfl (.tmp 32) (.tmp 34) 24 rfl IntP.elI (by rfl) own9.out (by rfl) (by rfl) hsl.out (IntP.whole [(k : Int)]) (fun h => by cases h) hn1.out hB2.out ?_); intro v' w4 own1 grow1 _)
            have b4 : Below w.heap.size w w4 := hb9.out.grown grow1 hb9.out.size (fun j hj => (own9.out.lt j hj).1)
            go_roundw
            case rel => exact ⟨k + 1, L ++ [(k : Int)], by omega, by go_num, hs.out.symm, by unfold OwnI; rw [IntP.cI_append]; exact own1, b4⟩
            case measure => simp [intOf]; omega
        · have h2' : (x.1 == 3) = false := by simpa using h2
          have hs := Lib.hid (hskip.out (fun h => h2 h.2.1))
          replace h1 := Lib.hid h1
          replace h2 := Lib.hid h2
          go_wp2_with fail
          go_roundw
          case rel => exact ⟨k + 1, L, by omega, by go_num, hs.out.symm, own8.out, b8.out⟩
          case measure => simp [intOf]; omega
      · have h1' : (y.1 == 3) = false := by simpa using h1
        have hs := Lib.hid (hskip.out (fun h => h1 h.1))
        replace h1 := Lib.hid h1
        go_wp2_with fail
        go_roundw
        case rel => exact ⟨k + 1, L, by omega, by go_num, hs.out.symm, own8.out, b8.out⟩
        case measure => simp [intOf]; omega
    · obtain rfl : k = l.length := by omega
      obtain rfl : L = flood l p := hL
      have hrow := Lib.hid (IntP.own_row hown)
      have hfar := Lib.hid (own_far hown)
      replace hown := Lib.hid hown
      replace hb := Lib.hid hb
      go_wp2_with fail
      go_ret
      exact ⟨A3, c3, rfl, hrow.out, hfar.out, hb.out⟩
set_option maxHeartbeats 8000000 in
theorem r_egress {A : Option Addr} {c : Nat} {l : List St} {w : World} (hr : RowP w A l.length c l) (hl : l.length ≤ 1000) {p : Nat} (hp : p < l.length) (cl o : Int) : Calls Try.prog 14 #[.slice A l.length c, .int .i64 p, .int .i64 cl, .int .i64 o] w fun e w' => ∃ A' c', e = .returned (.slice A' (egress l p cl o).length c') ∧ RowI w' A' (egress l p cl o).length c' (egress l p cl o) ∧ Below w.heap.size w w' := by
  have H := Lib.hid hr
  clear hr
  obtain ⟨E, hE⟩ : ∃ E, egress l p cl o = E := ⟨_, rfl⟩
  rw [hE]
  unfold egress at hE
  go_enter Try.func14, Try.ntmps14
  by_cases h2 : cl = 2
  · rw [if_pos h2] at hE
    subst hE
    subst h2
    go_wp2_with fail
    go_ret
    exact ⟨some ⟨w.heap.size, 0, none⟩, 0, rfl, IntP.own_row (own_lit0 w _ _ w.heap.size (Nat.le_refl _)), (Below.refl _ _).alloc (Nat.le_refl _) _⟩
  · rw [if_neg h2] at hE
    have h2' : (cl == 2) = false := by simpa using h2
    replace h2 := Lib.hid h2
    by_cases h1 : cl = 1 ∨ o < 0
    · rw [if_pos h1] at hE
      have h1' : (cl == 1) = true ∨ ((cl == 1) = false ∧ o < 0) := by
        by_cases q : cl = 1
        · exact .inl (by rw [q]; rfl)
        · exact .inr ⟨by simpa using q, h1.resolve_left q⟩
      have hc := Lib.hid (r_flood (p := p) H.out hl hp)
      replace h1 := Lib.hid h1
      replace hE := Lib.hid hE
      rcases h1' with h1' | ⟨h1', h3⟩
      all_goals
        go_wp2_with fail
        go_at_call 13
        (with_reducible refine hc.out.mono ?_)
        rintro e w1 ⟨A1, c1, rfl, r1, _, hb1⟩
        replace r1 := Lib.hid r1
        replace hb1 := Lib.hid hb1
        go_wp2_with fail
        go_ret
        exact ⟨A1, c1, by rw [← hE.out]; rfl, by rw [← hE.out]; exact r1.out, hb1.out⟩
    · rw [if_neg h1] at hE
      have h3 : ¬ o < 0 := fun q => h1 (.inr q)
      have h1' : (cl == 1) = false := by simpa using fun q => h1 (.inl q)
      replace h1 := Lib.hid h1
      replace hE := Lib.hid hE
      obtain ⟨w2, hw2⟩ : ∃ W, W = w.alloc (.cells #[] 3) := ⟨_, rfl⟩
      have b2 : Below w.heap.size w w2 := by rw [hw2]; exact (Below.refl _ _).alloc (Nat.le_refl _) _
      have O2 := Lib.hid (show OwnI w2 w.heap.size (.slice (some ⟨w.heap.size, 0, none⟩) 0 0) [] by rw [hw2]; exact own_lit0 w _ _ _ (Nat.le_refl _))
      have hc := Lib.hid (r_flood (p := p) (H.out.below b2) hl hp)
      have B2 := Lib.hid b2
      have hs2 := Lib.hid (show w.heap.size < w2.heap.size by rw [hw2]; simp)
      clear b2
      go_upto_region 6 with fail
      rw [← hw2]
      clear hw2
      go_wp2_with fail
      go_at_call 13
      (with_reducible refine hc.out.mono ?_)
      rintro e w3 ⟨A1, c1, rfl, r1, far1, hb1⟩
      have hs23 := hb1.size
      have O3 := Lib.hid (O2.out.below hb1)
      have B3 := Lib.hid (bt B2.out hb1)
      have hfl := flood_len l p
      obtain ⟨M, hM⟩ : ∃ M, flood l p = M := ⟨_, rfl⟩
      rw [hM] at r1 hfl
      rw [hM]
      replace hE := hE.out
      rw [hM] at hE
      replace hE := Lib.hid hE
      replace r1 := Lib.hid r1
      have far2 := Lib.hid (show ∀ a, A1 = some a → w.heap.size < a.block from fun a ha => Nat.lt_of_lt_of_le hs2.out (far1 a ha))
      replace hM := Lib.hid hM
      clear hb1 O2 B2 hc hs23 far1
      go_wp2_with fail
      go_loopw [9, 29] (fun v i wr => ∃ (k : Nat) (L : List Int), k ≤ M.length ∧ i = .int .i64 k ∧ L = (M.take k).filter (fun x => x == o) ∧ OwnI wr w.heap.size v L ∧ (∀ j, v.ownBlock = some j → j = w.heap.size ∨ w3.heap.size ≤ j) ∧ RowI wr A1 M.length c1 M ∧ w3.heap.size ≤ wr.heap.size ∧ (∀ a, A1 = some a → M ≠ [] → a.block < w3.heap.size) ∧ Below w.heap.size w wr) (fun _ i _ => M.length - (intOf i).toNat)
      case atStart => exact ⟨0, [], by omega, rfl, by simp, O3.out, fun j hj => .inl (by simpa [Value.ownBlock] using hj.symm), r1.out, Nat.le_refl _, fun a ha hn => by
        obtain ⟨g, o9, hA, hlt, _⟩ := r1.out.sl (by unfold IntP.cI; simpa using hn)
        rw [hA] at ha; obtain rfl := Option.some.inj ha; exact hlt, B3.out⟩
      case round =>
        clear O3 B3
        obtain ⟨k, L, hk, rfl, hL, hown, hob, hrM, hsz, hlt3, hb⟩ := hrel
        obtain ⟨A3, c3, hv3⟩ := IntP.OwnI.form' hown
        subst hv3
        have hlenL := Lib.hid (show L.length ≤ k by rw [hL]; have := List.length_filter_le (fun x => x == o) (M.take k); rw [List.length_take] at this; omega)
        by_cases hkn : k < M.length
        · have hkl : (k : Int) < (M.length : Int) := by omega
          obtain ⟨x, hx⟩ : ∃ x, M[k]? = some x := ⟨_, List.getElem?_eq_getElem hkn⟩
          obtain ⟨b, o9, hAb, hbw, x0⟩ := IntP.SlI.at_ hrM.sl hx
          subst hAb
          have hs : (M.take (k + 1)).filter (fun x => x == o) = L ++ if (x == o) = true then [x] else [] := by rw [List.take_add_one, hx, List.filter_append, ← hL]; congr 1; simp [List.filter_cons]
          replace hx := Lib.hid hx
          replace hL := Lib.hid hL
          replace hown := Lib.hid hown
          have hb' := Lib.hid hb
          have hob' := Lib.hid hob
          have hrM' := Lib.hid hrM
          have hsz' := Lib.hid hsz
          have hlt3' := Lib.hid hlt3
          cases hq : (x == o)
          · rw [hq] at hs
            have hs2 := Lib.hid (show (M.take (k + 1)).filter (fun x => x == o) = L by rw [hs]; simp)
            clear hs hb hob hrM hsz hlt3
            go_wp2_with fail
            go_roundw
            case rel => exact ⟨k + 1, L, by omega, by go_num, hs2.out.symm, hown.out, hob'.out, hrM'.out, hsz'.out, hlt3'.out, hb'.out⟩
            case measure => simp [intOf]; omega
          · rw [hq] at hs
            have hs2 := Lib.hid (show (M.take (k + 1)).filter (fun x => x == o) = L ++ [x] by rw [hs]; simp)
            obtain ⟨w9, hw9⟩ : ∃ W, W = wr.alloc (.cells #[.int .i64 x] 3) := ⟨_, rfl⟩
            have b9 : Below wr.heap.size wr w9 := by rw [hw9]; exact (Below.refl _ _).alloc (Nat.le_refl _) _
            have hsl := Lib.hid (show Sl w9 1 (some ⟨wr.heap.size, 0, none⟩) (IntP.cI [x]) from bx_sl (T := 3) (vals := #[.int .i64 x]) (by rw [hw9]; exact Bx.new _ _ _ rfl) rfl (by intro c hc; simp [IntP.cI] at hc; subst hc; rfl))
            have own9 := Lib.hid (hown.out.below b9)
            have hb9 := Lib.hid (bt hb b9)
            have hr9 := Lib.hid (hrM.below b9)
            have hs9 := Lib.hid (show w3.heap.size ≤ w9.heap.size from Nat.le_trans hsz b9.size)
            have hMn : M ≠ [] := fun e => by rw [e] at hkn; simp at hkn
            replace hMn := Lib.hid hMn
            have hn1 : Hid ((IntP.cI L).length + (IntP.cI [x]).length ≤ 1000000) := Lib.hid (by rw [IntP.cI_length, IntP.cI_length]; have := hlenL.out; simp; omega)
            have hvl : Hid ((IntP.cI L).length = L.length) := Lib.hid (IntP.cI_length L)
            have hB2 : Hid (w.heap.size ≤ w9.heap.size) := Lib.hid hb9.out.size
            clear b9 hs hb hob hrM hsz hlt3
            go_wp2_with (at_builtin; rw [← hw9]; (refine wpList_append_sl rfl (.tmp 36) (.tmp 38) 24 rfl IntP.elI (by rfl) own9.out (by rfl) (by rfl) hsl.out (IntP.whole [x]) (fun h => by cases h) hn1.out hB2.out ?_); intro v' w4 own1 grow1 hvb)
            have b4 : Below w.heap.size w w4 := hb9.out.grown grow1 hb9.out.size (fun j hj => (own9.out.lt j hj).1)
            have hob4 := Lib.hid (show ∀ j, v'.ownBlock = some j → j = w.heap.size ∨ w3.heap.size ≤ j from fun j hj => by
              rcases hvb with e | e
              · rw [e] at hj; exact hob'.out j hj
              · rw [e] at hj; obtain rfl := Option.some.inj hj; exact .inr hs9.out)
            have hr4 := Lib.hid (show RowI w4 (some ⟨b, o9, none⟩) M.length c1 M from row_grown hr9.out grow1 (fun a ha _ e => by
              have h1 := far2.out a ha
              have h2 := hlt3'.out a ha hMn.out
              rcases hob'.out _ e.symm with h3 | h3 <;> omega))
            have hs4 := Lib.hid (show w3.heap.size ≤ w4.heap.size from Nat.le_trans hs9.out grow1.size)
            clear hvb grow1
            go_roundw
            case rel => exact ⟨k + 1, L ++ [x], by omega, by go_num, hs2.out.symm, by unfold OwnI; rw [IntP.cI_append]; exact own1, hob4.out, hr4.out, hs4.out, hlt3'.out, b4⟩
            case measure => simp [intOf]; omega
        · obtain rfl : k = M.length := by omega
          rw [List.take_length] at hL
          obtain rfl : L = E := hL.trans hE.out
          have hrow := Lib.hid (IntP.own_row hown)
          replace hown := Lib.hid hown
          replace hb := Lib.hid hb
          clear hob hrM hsz hlt3
          go_wp2_with fail
          go_ret
          exact ⟨A3, c3, rfl, hrow.out, hb.out⟩
end Go.Proofs.Ytajihgpkaklgiaa.RelP
