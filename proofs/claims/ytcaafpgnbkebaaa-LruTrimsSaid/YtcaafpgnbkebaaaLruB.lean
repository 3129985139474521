/-
  Contracts of footwayref06.Right, Back, Same, Use, of lru.Right, slices.Clone, and of the statements' few.
-/
import Derived.Test.YtcaafpgnbkebaaaLruA
import Derived.WalkSpells
namespace Go.Proofs.Ytcaafpgnbkebaaa.LruP
open Go.RowKit Go.Sort Go.Proofs.Ytcaafpgnbkebaaa.SliceP Go.Proofs.Ytcaafpgnbkebaaa.IntP
set_option linter.unusedVariables false
set_option maxRecDepth 100000

def okI (l : List Int) : Bool := decide (l.Nodup ∧ ∀ y ∈ l, 0 ≤ y)
def rightI (l : List Int) : Bool := decide (l.length ≤ 64) && okI l
theorem ok_iff {l : List Int} : okI l = true ↔ l.Nodup ∧ ∀ y ∈ l, 0 ≤ y := by unfold okI; rw [decide_eq_true_eq]
theorem ok_false {l : List Int} (h : ¬ (l.Nodup ∧ ∀ y ∈ l, 0 ≤ y)) : okI l = false := by unfold okI; rwa [decide_eq_false_iff_not]
theorem right_iff {l : List Int} : rightI l = true ↔ l.length ≤ 64 ∧ l.Nodup ∧ ∀ y ∈ l, 0 ≤ y := by
  unfold rightI; rw [Bool.and_eq_true, decide_eq_true_eq, ok_iff]
theorem take_next {l : List Int} {k : Nat} {y : Int} (hy : l[k]? = some y) : l.take (k + 1) = l.take k ++ [y] := by
  rw [List.take_add_one, hy]; rfl
theorem ok_more {l : List Int} {k : Nat} {y : Int} (h : okI (l.take k) = true) (hy : l[k]? = some y) (h0 : 0 ≤ y) (hn : hasI (l.take k) y = false) : okI (l.take (k + 1)) = true := by
  rw [ok_iff] at h ⊢
  rw [has_false] at hn
  rw [take_next hy]
  refine ⟨List.nodup_append.2 ⟨h.1, by simp, fun a ha b hb => ?_⟩, fun z hz => ?_⟩
  · rw [List.mem_singleton] at hb; subst hb; rintro rfl; exact hn ha
  · rcases List.mem_append.1 hz with hz | hz
    · exact h.2 z hz
    · rw [List.mem_singleton] at hz; subst hz; exact h0
theorem ok_neg {l : List Int} {k : Nat} {y : Int} (hy : l[k]? = some y) (h0 : y < 0) : okI l = false :=
  ok_false fun h => by have := h.2 y (List.mem_of_getElem? hy); omega
theorem ok_has {l : List Int} {k : Nat} {y : Int} (hy : l[k]? = some y) (hn : hasI (l.take k) y = true) : okI l = false :=
  ok_false fun h => by
    have h1 : (l.take (k + 1)).Nodup := h.1.sublist (List.take_sublist _ _)
    rw [take_next hy, List.nodup_append] at h1
    exact h1.2.2 y (has_true.1 hn) y (by simp) rfl
theorem ok_end {l : List Int} (h : okI (l.take l.length) = true) : okI l = true := by rwa [List.take_length] at h
theorem right_bad {l : List Int} (h : okI l = false) : rightI l = false := by unfold rightI; rw [h, Bool.and_false]
theorem right_ok {l : List Int} (h : okI l = true) (hl : l.length ≤ 64) : rightI l = true := by unfold rightI; rw [h]; simp [hl]
theorem right_big {l : List Int} (hl : 64 < l.length) : rightI l = false := by unfold rightI; simp; omega

set_option maxHeartbeats 4000000 in
theorem right_any {A : Option Addr} {n cap : Nat} {l : List Int} {w : World} (h : RowI w A n cap l) (hl : l.length ≤ 1000) :
    Calls Try.prog 13 #[.slice A n cap] w fun e w' => e = .returned (.bool (rightI l)) ∧ w = w' := by
  obtain rfl := h.len
  have hc := h.cap
  have H := Lib.hid h
  clear h
  by_cases h64 : 64 < l.length
  · have h64' : (64 : Int) < (l.length : Int) := by omega
    go_enter Try.func13, Try.ntmps13
    go_wp2_with fail
    go_ret
    exact ⟨by rw [right_big h64]; rfl, rfl⟩
  have h64' : (l.length : Int) ≤ 64 := by omega
  go_enter Try.func13, Try.ntmps13
  go_wp2_with fail
  go_loop [10] (fun i => ∃ k : Nat, k ≤ l.length ∧ i = .int .i64 k ∧ okI (l.take k) = true) (fun i => l.length - (intOf i).toNat)
  case atStart => exact ⟨0, by omega, rfl, rfl⟩
  case round =>
    obtain ⟨k, hk, rfl, hno⟩ := hrel
    replace hno := Lib.hid hno
    by_cases hlk : k < l.length
    · obtain ⟨y, hy⟩ : ∃ y, l[k]? = some y := ⟨_, List.getElem?_eq_getElem hlk⟩
      obtain ⟨b, o, rfl, hbw, x0⟩ := SlI.at_ H.out.sl hy
      have hT := Lib.hid (H.out.take k hk)
      have hTl : Hid ((l.take k).length ≤ 1000000) := Lib.hid (by rw [List.length_take]; omega)
      have hkc : (k : Int) ≤ (cap : Int) := by omega
      have hk0 : (0 : Int) ≤ (k : Int) := by omega
      replace hy := Lib.hid hy
      by_cases hneg : y < 0
      · go_wp2_with fail
        go_ret
        exact ⟨by rw [right_bad (ok_neg hy.out hneg)]; rfl, rfl⟩
      · have hneg' : 0 ≤ y := by omega
        cases hh : hasI (l.take k) y
        all_goals
          replace hh := Lib.hid hh
          go_wp2_with fail
          go_at_call 22
          (with_reducible refine (has_is hT.out y _ hh.out hTl.out).mono ?_)
          rintro e w1 ⟨rfl, rfl⟩
          go_wp2_with fail
        · go_round
          case rel => exact ⟨k + 1, by omega, by go_num, ok_more hno.out hy.out hneg' hh.out⟩
          case measure => simp [intOf]; omega
        · go_ret
          exact ⟨by rw [right_bad (ok_has hy.out hh.out)]; rfl, rfl⟩
    · obtain rfl : k = l.length := by omega
      go_wp2_with fail
      go_ret
      exact ⟨by rw [right_ok (ok_end hno.out) (by omega)]; rfl, rfl⟩
theorem right_is {A : Option Addr} {n cap : Nat} {l : List Int} {w : World} (h : RowI w A n cap l) (hl : l.length ≤ 1000) (b : Bool) (hb : rightI l = b) :
    Calls Try.prog 13 #[.slice A n cap] w fun e w' => e = .returned (.bool b) ∧ w = w' := by subst hb; exact right_any h hl

set_option maxHeartbeats 4000000 in
theorem ref_right_any {A : Option Addr} {n cap : Nat} {l : List Int} {w : World} (h : RowI w A n cap l) (hl : l.length ≤ 1000) :
    Calls Try.prog 12 #[.slice A n cap] w fun e w' => e = .returned (.bool (rightI l)) ∧ w = w' := by
  obtain rfl := h.len
  have hc := h.cap
  have H := Lib.hid h
  clear h
  go_enter Try.func12, Try.ntmps12
  go_wp2_with fail
  go_loop [7] (fun i => ∃ k : Nat, k ≤ l.length ∧ i = .int .i64 k ∧ okI (l.take k) = true) (fun i => l.length - (intOf i).toNat)
  case atStart => exact ⟨0, by omega, rfl, rfl⟩
  case round =>
    obtain ⟨k, hk, rfl, hno⟩ := hrel
    replace hno := Lib.hid hno
    by_cases hlk : k < l.length
    · obtain ⟨y, hy⟩ : ∃ y, l[k]? = some y := ⟨_, List.getElem?_eq_getElem hlk⟩
      obtain ⟨b, o, rfl, hbw, x0⟩ := SlI.at_ H.out.sl hy
      have hT := Lib.hid (H.out.take k hk)
      have hTl : Hid ((l.take k).length ≤ 1000000) := Lib.hid (by rw [List.length_take]; omega)
      have hkc : (k : Int) ≤ (cap : Int) := by omega
      have hk0 : (0 : Int) ≤ (k : Int) := by omega
      replace hy := Lib.hid hy
      by_cases hneg : y < 0
      · go_wp2_with fail
        go_ret
        exact ⟨by rw [right_bad (ok_neg hy.out hneg)]; rfl, rfl⟩
      · have hneg' : 0 ≤ y := by omega
        cases hh : hasI (l.take k) y
        all_goals
          replace hh := Lib.hid hh
          go_wp2_with fail
          go_at_call 17
          (with_reducible refine (ref_has_is hT.out y _ hh.out hTl.out).mono ?_)
          rintro e w1 ⟨rfl, rfl⟩
          go_wp2_with fail
        · go_round
          case rel => exact ⟨k + 1, by omega, by go_num, ok_more hno.out hy.out hneg' hh.out⟩
          case measure => simp [intOf]; omega
        · go_ret
          exact ⟨by rw [right_bad (ok_has hy.out hh.out)]; rfl, rfl⟩
    · obtain rfl : k = l.length := by omega
      by_cases h64 : 64 < l.length
      · have h64' : decide ((l.length : Int) ≤ 64) = false := by simp; omega
        go_wp2_with fail
        go_ret
        exact ⟨by rw [right_big h64]; rfl, rfl⟩
      · have h64' : (l.length : Int) ≤ 64 := by omega
        go_wp2_with fail
        go_ret
        exact ⟨by rw [right_ok (ok_end hno.out) (by omega)]; rfl, rfl⟩
theorem ref_right_is {A : Option Addr} {n cap : Nat} {l : List Int} {w : World} (h : RowI w A n cap l) (hl : l.length ≤ 1000) (b : Bool) (hb : rightI l = b) :
    Calls Try.prog 12 #[.slice A n cap] w fun e w' => e = .returned (.bool b) ∧ w = w' := by subst hb; exact ref_right_any h hl

theorem back_next {l : List Int} {j : Nat} {y : Int} (hy : l[j]? = some y) : (l.drop j).reverse = (l.drop (j + 1)).reverse ++ [y] := by
  have hj : j < l.length := (List.getElem?_eq_some_iff.1 hy).1
  have e : l[j] = y := by rw [List.getElem?_eq_getElem hj] at hy; exact Option.some.inj hy
  rw [List.drop_eq_getElem_cons hj, List.reverse_cons, e]
theorem back_length (l : List Int) (j : Nat) : (l.drop j).reverse.length ≤ l.length := by rw [List.length_reverse, List.length_drop]; omega
set_option maxHeartbeats 2000000 in
theorem ref_back_any {A : Option Addr} {n cap : Nat} {l : List Int} {w : World} (h : RowI w A n cap l) (hl : l.length ≤ 1000) :
    Calls Try.prog 16 #[.slice A n cap] w (RetI w l.reverse) := by
  obtain ⟨rfl, h, _, _⟩ := h
  have H := Lib.hid h
  clear h
  have O0 := own_lit w #[] [] w.heap.size 0 (Nat.le_refl _) rfl rfl (by simp)
  have B0 : Below w.heap.size w (w.alloc (.cells #[] 3)) := (Below.refl _ _).alloc (Nat.le_refl _) _
  replace O0 := Lib.hid O0
  go_enter Try.func16, Try.ntmps16
  go_wp2_with fail
  go_loopw [3, 4] (fun v i wr => ∃ (m : Nat) (z : Int), m ≤ l.length ∧ i = .int .i64 z ∧ z = (m : Int) - 1 ∧ OwnI wr w.heap.size v (l.drop m).reverse ∧ Below w.heap.size w wr) (fun _ i _ => (intOf i + 1).toNat)
  case atStart => exact ⟨l.length, _, Nat.le_refl _, rfl, rfl, by rw [List.drop_length]; exact O0.out, B0⟩
  case round =>
    obtain ⟨m, z, hm, rfl, hz, hown, hb⟩ := hrel
    replace hown := Lib.hid hown
    by_cases hz0 : 0 ≤ z
    · obtain ⟨j, rfl⟩ : ∃ j : Nat, z = (j : Int) := ⟨z.toNat, by omega⟩
      obtain rfl : m = j + 1 := by omega
      clear hz
      obtain ⟨y, hy⟩ : ∃ y, l[j]? = some y := ⟨_, List.getElem?_eq_getElem (by omega)⟩
      obtain ⟨b, o, rfl, hbw, x0⟩ := SlI.at_ H.out hy
      replace x0 := (hb.cell (p := ⟨b, _, none⟩) hbw).trans x0
      have hs := hb.size
      have hjl : (j : Int) < (l.length : Int) := by omega
      have hlen := back_length l (j + 1)
      have hn := Lib.hid (back_next hy)
      clear hy
      have own2 := Lib.hid (hown.out.below ((Below.refl _ _).alloc (Nat.le_refl _) (.cells #[.int .i64 y] 3)))
      have hn1 : Hid ((cI (l.drop (j + 1)).reverse).length + (cI [y]).length ≤ 1000000) := Lib.hid (by rw [cI_length, cI_length]; simp only [List.length_cons, List.length_nil]; omega)
      have hB2 : Hid (w.heap.size ≤ (wr.alloc (.cells #[.int .i64 y] 3)).heap.size) := Lib.hid (by simp; omega)
      have hsl := Lib.hid (SlI.one wr y wr.heap.size rfl)
      clear hlen
      go_wp2_with (at_builtin; (refine wpList_append_sl rfl (.tmp 13) (.tmp 18) 22 rfl elI (by rfl) own2.out (by rfl) (by rfl) hsl.out (IntP.whole [y]) (fun h => by cases h) hn1.out hB2.out ?_); intro v' w1 own1 grow1 _)
      have B1 : Below w.heap.size w w1 := (hb.alloc hs _).grown grow1 (by simp; omega) (fun k hk => (hown.out.lt k hk).1)
      go_roundw
      case rel => exact ⟨j, (j : Int) - 1, by omega, by go_num, rfl, by rw [hn.out]; rw [← cI_append] at own1; exact own1, B1⟩
      case measure => (simp [intOf]) <;> omega
    · obtain rfl : m = 0 := by omega
      have hz1 : z < 0 := by omega
      clear hz
      rw [List.drop_zero] at hown
      go_wp2_with fail
      go_ret
      exact retI hown.out hb

set_option maxHeartbeats 2000000 in
theorem same_true {A B : Option Addr} {n c1 m c2 : Nat} {l l' : List Int} {w : World} (hA : RowI w A n c1 l) (hB : RowI w B m c2 l') (he : l = l') (hl : l.length ≤ 1000) :
    Calls Try.prog 15 #[.slice A n c1, .slice B m c2] w fun e w' => e = .returned (.bool true) ∧ Below w.heap.size w w' := by
  subst he
  obtain ⟨rfl, hA, _, _⟩ := hA
  obtain ⟨rfl, hB, _, _⟩ := hB
  have HA := Lib.hid hA
  have HB := Lib.hid hB
  clear hA hB
  go_enter Try.func15, Try.ntmps15
  go_wp2_with fail
  go_loopw [13] (fun i wr => ∃ k : Nat, k ≤ l.length ∧ i = .int .i64 k ∧ Below w.heap.size w wr) (fun i _ => l.length - (intOf i).toNat)
  case atStart => exact ⟨0, by omega, rfl, Below.refl _ _⟩
  case round =>
    obtain ⟨k, hk, rfl, hbr⟩ := hrel
    by_cases hlt : k < l.length
    case neg =>
      obtain rfl : k = l.length := by omega
      go_wp2_with fail
      go_ret
      exact ⟨rfl, hbr⟩
    obtain ⟨x, hx⟩ : ∃ x, l[k]? = some x := ⟨_, List.getElem?_eq_getElem hlt⟩
    obtain ⟨b, o, rfl, hbw, x0⟩ := SlI.at_ HA.out hx
    obtain ⟨g, o2, rfl, hgw, y0⟩ := SlI.at_ HB.out hx
    clear hx
    replace x0 := (hbr.cell (p := ⟨b, _, none⟩) hbw).trans x0
    replace y0 := (hbr.cell (p := ⟨g, _, none⟩) hgw).trans y0
    go_wp2_with fail
    have K_x0 := cell_regrown x0
    have K_y0 := cell_regrown y0
    clear x0 y0
    refine wp_region_quiet_below (by kernel_rfl) (by kernel_rfl) ?_
    repeat (first | go_big_quiet_step (fail) | quiet_step (fail))
    refine wpQuiet_nil ?_
    intro _ hw'
    obtain ⟨⟨dq, osq⟩, hw''⟩ := hw'
    subst hw''
    have hbW1 := below_regrown wr dq osq
    clear K_x0 K_y0
    have BW1 : Below w.heap.size w (Go.Sort.grow (redrawn wr dq) osq) := hbr.trans (hbW1.mono hbr.size)
    clear hbW1 hbr
    generalize Go.Sort.grow (redrawn wr dq) osq = W1 at *
    go_wp2_with fail
    go_roundw
    case rel => exact ⟨k + 1, by omega, by go_num, BW1⟩
    case measure => simp [intOf]; omega

def useL (l : List Int) (x : Int) : List Int := x :: without l x
theorem useL_length (l : List Int) (x : Int) : (useL l x).length = (without l x).length + 1 := rfl
set_option maxHeartbeats 2000000 in
theorem ref_use_any {A : Option Addr} {n cap : Nat} {l : List Int} {w : World} (h : RowI w A n cap l) (x : Int) (hl : l.length ≤ 1000) :
    Calls Try.prog 19 #[.slice A n cap, .int .i64 x] w (RetI w (useL l x)) := by
  have B0 : Below w.heap.size w (w.alloc (.cells #[.int .i64 x] 3)) := (Below.refl _ _).alloc (Nat.le_refl _) _
  have O0 := Lib.hid (own_lit w #[.int .i64 x] [x] w.heap.size 1 (Nat.le_refl _) rfl rfl (by simp))
  have H := Lib.hid (h.below B0)
  have hwl := without_length l x
  clear h
  go_enter Try.func19, Try.ntmps19
  go_wp2_with fail
  go_at_call 18
  (with_reducible refine (ref_without_any H.out x hl).mono ?_)
  rintro e w1 ⟨A1, c1, rfl, o1, hb1⟩
  have B1 : Below w.heap.size w w1 := bt B0 hb1
  have own1 := Lib.hid (O0.out.below hb1)
  have R1 := Lib.hid (own_row o1)
  have hn1 : Hid ((cI [x]).length + (cI (without l x)).length ≤ 1000000) := Lib.hid (by rw [cI_length, cI_length]; simp only [List.length_cons, List.length_nil]; omega)
  have hB2 : Hid (w.heap.size ≤ w1.heap.size) := Lib.hid B1.size
  have hnn : Hid ((without l x).length = (cI (without l x)).length) := Lib.hid (cI_length _).symm
  clear hb1 o1 B0
  go_wp2_with (at_builtin; (refine wpList_append_sl rfl (.tmp 8) (.tmp 11) 22 rfl elI (by rfl) own1.out (by rfl) hnn.out R1.out.sl (IntP.whole _) R1.out.nil hn1.out hB2.out ?_); intro v' w2 own2 grow2 _)
  have B2 : Below w.heap.size w w2 := B1.grown grow2 B1.size (fun k hk => (own1.out.lt k hk).1)
  rw [← cI_append] at own2
  go_ret
  exact retI own2 B2

set_option maxHeartbeats 2000000 in
theorem clone_any {A : Option Addr} {n cap : Nat} {l : List Int} {w : World} (h : RowI w A n cap l) (hl : l.length ≤ 1000) :
    Calls Try.prog 26 #[.slice A n cap] w (RetI w l) := by
  obtain ⟨rfl, h, hc, hnil⟩ := h
  cases A with
  | none =>
    obtain rfl := hnil rfl
    obtain rfl : l = [] := List.length_eq_zero_iff.1 (by omega)
    clear h hnil
    have hq := fun (w : World) (n c : Nat) => Lib.run_eql_slice_nil (P := Try.prog) w 38 3 none n c 0 0 Try.underlying38
    go_enter Try.func26, Try.ntmps26
    go_wp2_with fail
    go_ret
    exact retI (Own.nil _ _ _ _) (Below.refl _ _)
  | some a =>
    have B0 : Below w.heap.size w (w.alloc (.cells #[] 3)) := (Below.refl _ _).alloc (Nat.le_refl _) _
    have H := Lib.hid (h.below B0)
    have O0 := Lib.hid (own_lit w #[] [] w.heap.size 0 (Nat.le_refl _) rfl rfl (by simp))
    have hn1 : Hid ((cI []).length + (cI l).length ≤ 1000000) := Lib.hid (by rw [cI_length, cI_length]; simp only [List.length_nil]; omega)
    have hB2 : Hid (w.heap.size ≤ (w.alloc (.cells #[] 3)).heap.size) := Lib.hid B0.size
    have hnn : Hid (l.length = (cI l).length) := Lib.hid (cI_length _).symm
    have hq := fun (w : World) (n c : Nat) => Lib.run_eql_slice_nil (P := Try.prog) w 38 3 (some a) n c 0 0 Try.underlying38
    clear h hnil
    go_enter Try.func26, Try.ntmps26
    go_wp2_with (at_builtin; (refine wpList_append_sl rfl (.tmp 5) (.tmp 6) 38 rfl elR (by rfl) O0.out (by rfl) hnn.out H.out (IntP.whole _) (fun h => by cases h) hn1.out hB2.out ?_); intro v' w2 own2 grow2 _)
    have B2 : Below w.heap.size w w2 := B0.grown grow2 B0.size (fun k hk => (O0.out.lt k hk).1)
    rw [← cI_append] at own2
    go_ret
    exact retI own2 B2

theorem few_nil (w : World) : Calls Try.prog 7 #[.slice none 0 0] w fun e w' => e = .returned (.slice none 0 0) ∧ w = w' := by
  go_enter Try.func7, Try.ntmps7
  go_wp2
  go_ret
  exact ⟨rfl, rfl⟩
theorem few_any (a : Addr) (n cap : Nat) (w : World) (hn : n ≤ cap) (hc : cap ≤ 9223372036854775807) : Calls Try.prog 7 #[.slice (some a) n cap] w fun e w' => e = .returned (.slice (some a) (min n 70) cap) ∧ w = w' := by
  by_cases h : n ≤ 70
  · rw [Nat.min_eq_left h]
    have h' : (n : Int) ≤ 70 := by omega
    go_enter Try.func7, Try.ntmps7
    go_wp2
    go_ret
    exact ⟨rfl, rfl⟩
  · rw [Nat.min_eq_right (by omega)]
    have h' : (70 : Int) < (n : Int) := by omega
    have h'' : ¬ ((n : Int) ≤ 70) := by omega
    go_enter Try.func7, Try.ntmps7
    go_wp2
    go_ret
    exact ⟨rfl, rfl⟩
theorem few_in {v : Value} {w : World} (h : InI w v) : Calls Try.prog 7 #[v] w (Few w) := by
  rcases h with rfl | ⟨a, L, cap, rfl, hL, hc, hS⟩
  · exact (few_nil w).mono fun _ _ ⟨h1, h2⟩ => ⟨none, 0, 0, [], h1, RowI.empty w, by simp, h2⟩
  · refine (few_any a L.length cap w hL hc).mono fun _ _ ⟨h1, h2⟩ => ⟨some a, min L.length 70, cap, L.take 70, h1, ⟨by rw [List.length_take]; omega, SlI.take hS 70, by omega, fun h => by cases h⟩, by rw [List.length_take]; omega, h2⟩
end Go.Proofs.Ytcaafpgnbkebaaa.LruP
