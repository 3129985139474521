/-
  WheelNext whole.
-/
import Derived.Test.YtdieoecpacplmaaWheelT
namespace Go.Proofs.Ytdieoecpacplmaa.WheelP
open Go.RowKit Go.Sort Go.Proofs.Ytdieoecpacplmaa.SliceP Go.Proofs.Ytdieoecpacplmaa.MacP
set_option linter.unusedVariables false
set_option maxRecDepth 100000

def True1 (w : World) (e : Ending) (w' : World) : Prop := e = .returned (.bool true) ∧ Below w.heap.size w w'
theorem bt {w a b : World} (h1 : Below w.heap.size w a) (h2 : Below a.heap.size a b) : Below w.heap.size w b := h1.trans (h2.mono h1.size)
theorem le_first {l : List T} {x : T} (hg : Good l) (hx : l[0]? = some x) : 1 ≤ (leT l x.due).length ∧ (∀ y ∈ leT l x.due, y.due = x.due) ∧ leT l (x.due - 1) = [] ∧ 0 ≤ x.due ∧ x.due ≤ 1099511627776 := by
  cases l with
  | nil => simp at hx
  | cons z r =>
    obtain rfl : z = x := by simpa using hx
    have hs := hg.sorted
    have hs' : (z :: r).Pairwise fun x y => x.due ≤ y.due := hs
    rw [List.pairwise_cons] at hs'
    have hok := ok_due (hg.ok z (by simp))
    refine ⟨?_, fun y hy => ?_, ?_, hok.2.1, hok.2.2⟩
    · have : z ∈ leT (z :: r) z.due := leT_mem.2 ⟨by simp, Int.le_refl _⟩
      exact List.length_pos_of_mem this
    · obtain ⟨h1, h2⟩ := leT_mem.1 hy
      rcases List.mem_cons.1 h1 with rfl | h1
      · rfl
      · have := hs'.1 y h1; omega
    · unfold leT
      rw [List.filter_eq_nil_iff]
      intro y hy
      rcases List.mem_cons.1 hy with rfl | h1
      · simp; omega
      · have := hs'.1 y h1; simp; omega

set_option maxHeartbeats 4000000 in
theorem next_law (v : Value) (w : World) (h : InT w v) : Calls Try.prog 6 #[v] w (True1 w) := by
  have H := Lib.hid h
  clear h
  go_enter Try.func6, Try.ntmps6
  go_wp2_with fail
  go_at_call 7
  (with_reducible refine (few_in H.out).mono ?_)
  rintro e w' ⟨A, n, c, l, rfl, hR, hl, rfl⟩
  have hn := hR.len
  have hl1000 : l.length ≤ 1000 := by omega
  cases hr : rightB l
  case false =>
    have hn0 : ((n : Int) == 0) = false := by
      have : l ≠ [] := by rintro rfl; cases hr
      have := List.length_pos_iff.2 this
      simp; omega
    replace hR := Lib.hid hR
    replace hr := Lib.hid hr
    clear hn
    go_wp2_with fail
    go_at_call 11
    (with_reducible refine (next_bad hR.out hl1000 hr.out).mono ?_)
    rintro e w1 ⟨rfl, hb1⟩
    go_wp2_with fail
    go_at_call 14
    (with_reducible refine (alive_any _).mono ?_)
    rintro e w2 ⟨rfl, hb2⟩
    have B2 := bt hb1 hb2
    clear hb1 hb2
    go_wp2_with fail
    go_ret
    exact ⟨rfl, B2⟩
  case true =>
    by_cases h0 : l = []
    · subst h0
      obtain rfl : n = 0 := by simpa using hn
      replace hR := Lib.hid hR
      clear hn hr
      go_wp2_with fail
      go_at_call 11
      (with_reducible refine (next_none hR.out).mono ?_)
      rintro e w1 ⟨rfl, hb1⟩
      go_wp2_with fail
      go_at_call 14
      (with_reducible refine (alive_any _).mono ?_)
      rintro e w2 ⟨rfl, hb2⟩
      have B2 := bt hb1 hb2
      clear hb1 hb2
      go_wp2_with fail
      go_ret
      exact ⟨rfl, B2⟩
    · have hp : 0 < l.length := List.length_pos_iff.2 h0
      obtain ⟨x, hx⟩ : ∃ x, l[0]? = some x := ⟨_, List.getElem?_eq_getElem hp⟩
      have hg := good_of_right hr
      obtain ⟨h1, h2, h3, h4, h5⟩ := le_first hg hx
      have ht : timeB x.due = true := ok_time (hg.ok x (List.mem_of_getElem? hx))
      have hsum := le_gt_len (t := x.due) hg.sorted
      rw [← hn] at hsum
      obtain ⟨D, hD⟩ : ∃ D, leT l x.due = D := ⟨_, rfl⟩
      obtain ⟨G, hG⟩ : ∃ G, gtT l x.due = G := ⟨_, rfl⟩
      rw [hD] at h1 h2 hsum
      rw [hG] at hsum
      have hDl : D.length ≤ 70 := by omega
      have hGl : G.length ≤ 70 := by omega
      have hs1 : (((D.length : Int) + (G.length : Int)) == (n : Int)) = true := by simp; omega
      have hs2 : (((D.length : Int) + (G.length : Int)) != (n : Int)) = false := by simp; omega
      have h1' : (1 : Int) ≤ (D.length : Int) := by omega
      replace hR := Lib.hid hR
      replace hr := Lib.hid hr
      replace hx := Lib.hid hx
      replace hg := Lib.hid hg
      replace ht := Lib.hid ht
      replace hD := Lib.hid hD
      replace hG := Lib.hid hG
      replace h2 := Lib.hid h2
      replace h3 := Lib.hid h3
      replace hsum := Lib.hid hsum
      clear hn h0
      go_wp2_with fail
      go_at_call 11
      (with_reducible refine (next_good hR.out hx.out hl1000 hr.out).mono ?_)
      rintro e w1 ⟨rfl, hb1⟩
      go_wp2_with fail
      go_at_call 10
      (with_reducible refine (advance_good (hR.out.below hb1) x.due hg.out ht.out).mono ?_)
      rw [hD.out, hG.out]
      rintro e w2 ⟨A1, c1, A2, c2, rfl, o1, o2, hb2⟩
      have B2 := bt hb1 hb2
      have RD := Lib.hid (own_row o2)
      have RL := Lib.hid ((hR.out.below hb1).below hb2)
      clear o1 o2 hb1 hb2
      go_wp2_with fail
      go_at_call 14
      (with_reducible refine (alive_any _).mono ?_)
      rintro e w3 ⟨rfl, hb3⟩
      have B3 := bt B2 hb3
      have RD3 := Lib.hid (RD.out.below hb3)
      have RL3 := Lib.hid (RL.out.below hb3)
      clear hb3 RD RL B2
      go_wp2_with fail
      go_loopw [66] (fun i wr => ∃ k : Nat, k ≤ D.length ∧ i = .int .i64 k ∧ Below w3.heap.size w3 wr) (fun i _ => D.length - (intOf i).toNat)
      case atStart => exact ⟨0, by omega, rfl, Below.refl _ _⟩
      case round =>
        obtain ⟨k, hk, rfl, hb⟩ := hrel
        have hs := hb.size
        by_cases hlk : k < D.length
        · obtain ⟨y, hy⟩ : ∃ y, D[k]? = some y := ⟨_, List.getElem?_eq_getElem hlk⟩
          obtain ⟨b, o, rfl, hbw, x0, x1⟩ := SlT.at_ RD3.out.sl hy
          have hyd := h2.out y (List.mem_of_getElem? hy)
          replace x0 := (hb.cell (p := ⟨b, _, none⟩) hbw).trans x0
          replace x1 := (hb.cell (p := ⟨b, _, none⟩) hbw).trans x1
          rw [hyd] at x1
          clear hy hyd
          go_wp2_with fail
          go_roundw
          case rel => exact ⟨k + 1, by omega, by go_num, hb.alloc hs _⟩
          case measure => simp [intOf]; omega
        · obtain rfl : k = D.length := by omega
          have B4 := bt B3 hb
          have RL4 := Lib.hid (RL3.out.below hb)
          by_cases hz : x.due = 0
          · have hz' : (x.due == 0) = true := by simpa using hz
            clear hz
            go_wp2_with fail
            go_ret
            exact ⟨rfl, B4⟩
          · have hz' : (x.due == 0) = false := by simpa using hz
            have hz1 : 1 ≤ x.due := by omega
            have ht1 := Lib.hid (show timeB (x.due - 1) = true by unfold timeB; simp; omega)
            clear hz hb
            go_wp2_with fail
            go_at_call 10
            (with_reducible refine (advance_good RL4.out (x.due - 1) hg.out ht1.out).mono ?_)
            rw [h3.out]
            rintro e w5 ⟨A5, c5, A6, c6, rfl, _, _, hb5⟩
            have B5 := bt B4 hb5
            clear hb5
            go_wp2_with fail
            go_ret
            exact ⟨rfl, B5⟩
end Go.Proofs.Ytdieoecpacplmaa.WheelP
