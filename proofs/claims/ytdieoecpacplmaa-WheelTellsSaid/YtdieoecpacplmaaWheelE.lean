/-
  Contracts of slices.Grow at nil and slices.Concat.
-/
import Derived.Test.YtdieoecpacplmaaWheelD
namespace Go.Proofs.Ytdieoecpacplmaa.WheelP
open Go.RowKit Go.Sort Go.Proofs.Ytdieoecpacplmaa.SliceP Go.Proofs.Ytdieoecpacplmaa.MacP
set_option linter.unusedVariables false
set_option maxRecDepth 100000

set_option maxHeartbeats 1000000 in
theorem grow_any (n : Nat) (hn : n ≤ 1000) (w : World) :
    Calls Try.prog 36 #[.slice none 0 0, .int .i64 n] w (RetT w []) := by
  by_cases h0 : 0 < n
  · have h1 : (0 : Int) < (n : Int) := by omega
    go_enter Try.func36, Try.ntmps36
    go_wp2_with (at_builtin; (refine wpList_append_make rfl (.tmp 20) (.tmp 21) rfl elT Try.underlying3 rfl n rfl h0 (by omega) ?_); intro g c w1 own1 hb1 hc1 hc2)
    replace own1 := Lib.hid own1
    go_wp2_with fail
    go_ret
    exact ⟨_, _, rfl, own1.out, (fun h => by cases h), hb1⟩
  · obtain rfl : n = 0 := by omega
    go_enter Try.func36, Try.ntmps36
    go_wp2_with fail
    go_ret
    exact ⟨_, _, rfl, Own.nil _ _ _ _, (fun _ => rfl), Below.refl _ _⟩

abbrev SlLT (w : World) (A : Option Addr) (L : List (List T)) : Prop := SlL w 2 A (L.map fun l => l.map T.cells)
theorem SlLT.at_ {w : World} {A : Option Addr} {L : List (List T)} (h : SlLT w A L) {k : Nat} {l : List T} (hk : L[k]? = some l) : ∃ b o A' c, A = some ⟨b, o, none⟩ ∧ b < w.heap.size ∧ w.cell? ⟨b, o + k, none⟩ = some (.slice A' l.length c) ∧ (A' = none → c = 0) ∧ SlT w A' l := by
  obtain ⟨b, o, A', c, h1, h2, h3, h4, h5⟩ := SlL.at_ h (k := k) (xs := l.map T.cells) (by rw [List.getElem?_map, hk]; rfl)
  rw [flatT_length] at h3
  exact ⟨b, o, A', c, h1, h2, h3, h4, h5⟩
theorem flat_take_le (L : List (List T)) (k : Nat) : (L.take k).flatten.length ≤ L.flatten.length := by
  conv => rhs; rw [← List.take_append_drop k L, List.flatten_append, List.length_append]
  omega
theorem flat_take_succ {L : List (List T)} {k : Nat} {l : List T} (h : L[k]? = some l) : (L.take (k + 1)).flatten = (L.take k).flatten ++ l := by
  rw [List.take_add_one, h, List.flatten_append]; simp

set_option maxHeartbeats 2000000 in
theorem concat_any (A : Option Addr) (cap : Nat) (L : List (List T)) (w : World) (hL : L.length ≤ 1000) (hl : L.flatten.length ≤ 1000) (h : SlLT w A L) :
    Calls Try.prog 26 #[.slice A L.length cap] w (RetT w L.flatten) := by
  have H := Lib.hid h
  clear h
  go_enter Try.func26, Try.ntmps26
  go_wp2_with fail
  go_loop [3, 11] (fun n i => ∃ k : Nat, k ≤ L.length ∧ i = .int .i64 k ∧ n = .int .i64 ((L.take k).flatten.length : Nat)) (fun _ i => L.length - (intOf i).toNat)
  case atStart => exact ⟨0, by omega, rfl, rfl⟩
  case round =>
    obtain ⟨k, hk, rfl, rfl⟩ := hrel
    have hle := flat_take_le L k
    by_cases hlk : k < L.length
    · obtain ⟨l, hx⟩ : ∃ l, L[k]? = some l := ⟨_, List.getElem?_eq_getElem hlk⟩
      obtain ⟨b, o, A', c, rfl, hbw, c0, _, _⟩ := SlLT.at_ H.out hx
      have hle2 := flat_take_le L (k + 1)
      have hfs := Lib.hid (flat_take_succ hx)
      have hln : (L.take k).flatten.length + l.length ≤ 1000 := by rw [hfs.out, List.length_append] at hle2; omega
      clear hx hle2
      obtain ⟨m, hm⟩ : ∃ m, (L.take k).flatten.length = m := ⟨_, rfl⟩
      rw [hm] at hln hle ⊢
      replace hm := Lib.hid hm
      go_wp2_with fail
      go_round
      case rel => exact ⟨k + 1, by omega, by go_num, by rw [hfs.out, List.length_append, hm.out]; go_num⟩
      case measure => simp [intOf]; omega
    · obtain rfl : k = L.length := by omega
      rw [List.take_length]
      clear hle
      obtain ⟨N, hN⟩ : ∃ N, L.flatten.length = N := ⟨_, rfl⟩
      rw [hN] at hl ⊢
      replace hN := Lib.hid hN
      go_wp2_with fail
      go_at_call 36
      (with_reducible refine (grow_any N hl _).mono ?_)
      rintro e w1 ⟨A1, c1, rfl, own1, hA1, hb1⟩
      replace own1 := Lib.hid own1
      go_wp2_with fail
      go_loopw [6, 27] (fun v i wr => ∃ k : Nat, k ≤ L.length ∧ i = .int .i64 k ∧ OwnT wr w.heap.size v (L.take k).flatten ∧ Below w.heap.size w wr) (fun _ i _ => L.length - (intOf i).toNat)
      case atStart => exact ⟨0, by omega, rfl, own1.out, hb1⟩
      case round =>
        obtain ⟨k, hk, rfl, hown, hb⟩ := hrel
        replace hown := Lib.hid hown
        by_cases hlk : k < L.length
        · obtain ⟨l, hx⟩ : ∃ l, L[k]? = some l := ⟨_, List.getElem?_eq_getElem hlk⟩
          obtain ⟨b, o, A', c, rfl, hbw, c0, hA', hsl⟩ := SlLT.at_ H.out hx
          replace c0 := (hb.cell (p := ⟨b, _, none⟩) hbw).trans c0
          have hs := hb.size
          have hle2 := flat_take_le L (k + 1)
          rw [hN.out] at hle2
          have hfs := Lib.hid (flat_take_succ hx)
          have hn1 : Hid (((L.take k).flatten.map T.cells).length + (l.map T.cells).length ≤ 1000000) := Lib.hid (by
            rw [hfs.out, List.length_append] at hle2
            rw [flatT_length, flatT_length]; omega)
          replace hsl := Lib.hid (Sl.below hsl hb)
          replace hA' := Lib.hid hA'
          have hB := Lib.hid hs
          clear hx hle2
          go_wp2_with (at_builtin; (refine wpList_append_sl rfl (.tmp 31) (.tmp 32) 22 rfl elT (by rfl) hown.out (by rfl) (flatT_length l).symm hsl.out (whole l) hA'.out hn1.out hB.out ?_); intro v' w2 own2 grow2 _)
          have B2 : Below w.heap.size w w2 := hb.grown grow2 hs (fun j hj => (hown.out.lt j hj).1)
          go_roundw
          case rel => exact ⟨k + 1, by omega, by go_num, by rw [hfs.out]; rw [← List.map_append] at own2; exact own2, B2⟩
          case measure => simp [intOf]; omega
        · obtain rfl : k = L.length := by omega
          rw [List.take_length] at hown
          go_wp2_with fail
          go_ret
          exact retT hown.out hb
theorem concat_is (A : Option Addr) (cap n : Nat) (L : List (List T)) (X : List T) (w : World) (hn : n = L.length) (hX : X = L.flatten) (hL : L.length ≤ 1000) (hl : X.length ≤ 1000) (h : SlLT w A L) :
    Calls Try.prog 26 #[.slice A n cap] w (RetT w X) := by
  subst hn; subst hX; exact concat_any A cap L w hL hl h
end Go.Proofs.Ytdieoecpacplmaa.WheelP
