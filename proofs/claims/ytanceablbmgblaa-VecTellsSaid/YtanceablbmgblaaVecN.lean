/-
  Contracts of footwayref04.Far and Same; what is in order, both ways.
-/
import Derived.Test.YtanceablbmgblaaVecM
namespace Go.Proofs.Ytanceablbmgblaa.VecP
open Go.RowKit Go.Sort Go.Proofs.Ytanceablbmgblaa.SliceP
set_option linter.unusedVariables false
set_option maxRecDepth 100000

theorem ref_all_is (A : Option Addr) (cap : Nat) (l : List V) (x : Bool) (w : World) (hl : l.length ≤ 9223372036854775807) (h : SlV w A l) (hx : l.all V.ok = x) :
    Calls Try.prog 17 #[.slice A l.length cap] w fun e w' => e = .returned (.bool x) ∧ Below w.heap.size w w' := by
  subst hx; exact ref_all_any A cap l w hl h

set_option maxHeartbeats 1000000 in
theorem ref_far_any (r c b p n : Int) (w : World) (n0 : 0 ≤ c) (n1 : c ≤ 2147483647) (n2 : 0 ≤ n) (n3 : n ≤ 2147483647) :
    Calls Try.prog 16 #[vv r c b p, .int .i64 n] w fun e w' => e = .returned (vv r (min (c + n) 2147483647) b p) ∧ Below w.heap.size w w' := by
  by_cases h : 2147483647 < c + n
  · have hm : min (c + n) 2147483647 = 2147483647 := by omega
    rw [hm]
    go_enter Try.func16, Try.ntmps16
    go_wp2
    refine bodyPost_ret (v := vv r 2147483647 b p) (by simp [results, Try.results16, go_sem]) rfl ⟨rfl, ?_⟩
    exact ((Below.refl _ _).alloc (Nat.le_refl _) _).alloc (by simp) _
  · have hm : min (c + n) 2147483647 = c + n := by omega
    rw [hm]
    go_enter Try.func16, Try.ntmps16
    go_wp2
    refine bodyPost_ret (v := vv r (c + n) b p) (by simp [results, Try.results16, go_sem]) rfl ⟨rfl, ?_⟩
    exact ((Below.refl _ _).alloc (Nat.le_refl _) _).alloc (by simp) _

set_option maxHeartbeats 1000000 in
theorem same_true (A B : Option Addr) (c1 c2 : Nat) (l : List V) (w : World) (hl : l.length ≤ 1000000) (hA : SlV w A l) (hB : SlV w B l) :
    Calls Try.prog 18 #[.slice A l.length c1, .slice B l.length c2] w fun e w' => e = .returned (.bool true) ∧ Below w.heap.size w w' := by
  have HA := Lib.hid hA
  have HB := Lib.hid hB
  clear hA hB
  go_enter Try.func18, Try.ntmps18
  go_wp2_with fail
  go_loopw [13] (fun i wr => ∃ k : Nat, k ≤ l.length ∧ i = .int .i64 k ∧ Below w.heap.size w wr) (fun i _ => l.length - (intOf i).toNat)
  case atStart => exact ⟨0, by omega, rfl, Below.refl _ _⟩
  case round =>
    obtain ⟨k, hk, rfl, hbr⟩ := hrel
    by_cases hlt : k < l.length
    case neg =>
      obtain rfl : k = l.length := by omega
      go_wp2_with fail
      go_ret
      exact ⟨rfl, hbr⟩
    obtain ⟨x, hx⟩ : ∃ x, l[k]? = some x := ⟨_, List.getElem?_eq_getElem hlt⟩
    obtain ⟨b, o, rfl, hbw, x0, x1, x2, x3⟩ := HA.out.at_ hx
    obtain ⟨g, o2, rfl, hgw, y0, y1, y2, y3⟩ := HB.out.at_ hx
    clear hx
    have BR := Below.refl w.heap.size w
    have x0_wr : wr.cell? ⟨b, o + k * 4, none⟩ = some (.int .i64 x.r) := (hbr.cell (p := ⟨b, _, none⟩) hbw).trans x0
    have x1_wr : wr.cell? ⟨b, o + k * 4 + 1, none⟩ = some (.int .i64 x.c) := (hbr.cell (p := ⟨b, _, none⟩) hbw).trans x1
    have x2_wr : wr.cell? ⟨b, o + k * 4 + 2, none⟩ = some (.int .i64 x.b) := (hbr.cell (p := ⟨b, _, none⟩) hbw).trans x2
    have x3_wr : wr.cell? ⟨b, o + k * 4 + 3, none⟩ = some (.int .i64 x.p) := (hbr.cell (p := ⟨b, _, none⟩) hbw).trans x3
    have y0_wr : wr.cell? ⟨g, o2 + k * 4, none⟩ = some (.int .i64 x.r) := (hbr.cell (p := ⟨g, _, none⟩) hgw).trans y0
    have y1_wr : wr.cell? ⟨g, o2 + k * 4 + 1, none⟩ = some (.int .i64 x.c) := (hbr.cell (p := ⟨g, _, none⟩) hgw).trans y1
    have y2_wr : wr.cell? ⟨g, o2 + k * 4 + 2, none⟩ = some (.int .i64 x.b) := (hbr.cell (p := ⟨g, _, none⟩) hgw).trans y2
    have y3_wr : wr.cell? ⟨g, o2 + k * 4 + 3, none⟩ = some (.int .i64 x.p) := (hbr.cell (p := ⟨g, _, none⟩) hgw).trans y3
    clear x0 x1 x2 x3 y0 y1 y2 y3
    have zwr_9 : b < wr.heap.size := Nat.lt_of_lt_of_le hbw hbr.size
    clear hbw
    have zwr_11 : g < wr.heap.size := Nat.lt_of_lt_of_le hgw hbr.size
    clear hgw
    have Bwr : Below w.heap.size w wr := BR.trans (hbr.mono BR.size)
    clear hbr BR
    go_wp2_with fail
    have K_x0 := cell_regrown x0_wr
    have K_x1 := cell_regrown x1_wr
    have K_x2 := cell_regrown x2_wr
    have K_x3 := cell_regrown x3_wr
    have K_y0 := cell_regrown y0_wr
    have K_y1 := cell_regrown y1_wr
    have K_y2 := cell_regrown y2_wr
    have K_y3 := cell_regrown y3_wr
    clear x0_wr x1_wr x2_wr x3_wr y0_wr y1_wr y2_wr y3_wr
    refine wp_region_quiet_below (by kernel_rfl) (by kernel_rfl) ?_
    repeat (first | go_big_quiet_step (fail) | quiet_step (fail))
    refine wpQuiet_nil ?_
    intro _ hw'
    obtain ⟨⟨dq, osq⟩, hw''⟩ := hw'
    subst hw''
    have hbW1 := below_regrown wr dq osq
    have x0_W1 := K_x0 dq osq
    have x1_W1 := K_x1 dq osq
    have x2_W1 := K_x2 dq osq
    have x3_W1 := K_x3 dq osq
    have y0_W1 := K_y0 dq osq
    have y1_W1 := K_y1 dq osq
    have y2_W1 := K_y2 dq osq
    have y3_W1 := K_y3 dq osq
    clear K_x0 K_x1 K_x2 K_x3 K_y0 K_y1 K_y2 K_y3 
    have zW1_41 : b < (Go.Sort.grow (redrawn wr dq) osq).heap.size := Nat.lt_of_lt_of_le zwr_9 hbW1.size
    clear zwr_9
    have zW1_43 : g < (Go.Sort.grow (redrawn wr dq) osq).heap.size := Nat.lt_of_lt_of_le zwr_11 hbW1.size
    clear zwr_11
    have BW1 : Below w.heap.size w (Go.Sort.grow (redrawn wr dq) osq) := Bwr.trans (hbW1.mono Bwr.size)
    clear hbW1 Bwr
    generalize Go.Sort.grow (redrawn wr dq) osq = W1 at *
    go_wp2_with fail
    go_roundw
    case rel => exact ⟨k + 1, by omega, by go_num, BW1⟩
    case measure => simp [intOf]; omega

theorem insV_perm (x : V) : ∀ l : List V, List.Perm (insV x l) (x :: l)
  | [] => List.Perm.refl _
  | y :: r => by
    rw [insV]; split
    · exact List.Perm.refl _
    · exact (List.Perm.cons y (insV_perm x r)).trans (List.Perm.swap x y r)
theorem insV_pairs (x : V) : ∀ l : List V, l.Pairwise (fun x y => y.bet x = false) → (insV x l).Pairwise (fun x y => y.bet x = false)
  | [], _ => by simp [insV]
  | y :: r, h => by
    rw [List.pairwise_cons] at h
    rw [insV]; split
    · rename_i hxy
      have hyx : y.bet x = false := by
        cases hq : y.bet x
        · rfl
        · have := V.bet_trans hxy hq
          rw [V.bet_self] at this; cases this
      rw [List.pairwise_cons]
      refine ⟨fun z hz => ?_, List.pairwise_cons.2 h⟩
      rcases List.mem_cons.1 hz with rfl | hz
      · exact hyx
      · exact V.bet_ntrans (h.1 z hz) hyx
    · rename_i hxy
      rw [List.pairwise_cons]
      refine ⟨fun z hz => ?_, insV_pairs x r h.2⟩
      rcases List.mem_cons.1 ((insV_perm x r).subset hz) with rfl | hz
      · simpa using hxy
      · exact h.1 z hz
theorem sortK_perm (l : List V) : ∀ k, k ≤ l.length → List.Perm (sortK l k) (l.take k)
  | 0, _ => by simp [sortK]
  | k + 1, hk => by
    obtain ⟨x, hx⟩ : ∃ x, l[k]? = some x := ⟨_, List.getElem?_eq_getElem (by omega)⟩
    rw [sortK_succ hx, List.take_add_one, hx]
    exact (insV_perm x _).trans (((sortK_perm l k (by omega)).cons x).trans (List.perm_append_singleton x _).symm)
theorem sortK_pairs (l : List V) : ∀ k, (sortK l k).Pairwise (fun x y => y.bet x = false)
  | 0 => List.Pairwise.nil
  | k + 1 => by rw [sortK]; exact insV_pairs _ _ (sortK_pairs l k)
theorem sortK_eq (l : List V) : sortK l l.length = msort l := by
  have h1 := sortK_perm l l.length (Nat.le_refl _)
  rw [List.take_of_length_le (Nat.le_refl _)] at h1
  refine (h1.trans (msort_perm l).symm).eq_of_pairwise (fun a b _ _ h2 h3 => V.bet_anti h3 h2) (sortK_pairs l _) ?_
  exact (msort_pairs l).imp fun h => by simpa using h
end Go.Proofs.Ytanceablbmgblaa.VecP
