/-
  Contracts of queue: Right, lose, New.
-/
import Derived.Test.YtimpngmmmoaejaaQueueB
namespace Go.Proofs.Ytimpngmmmoaejaa.ChanP
open Go.RowKit Go.Sort Go.Conc Go.Proofs.Ytimpngmmmoaejaa.SliceP Go.Proofs.Ytimpngmmmoaejaa.BoxP Go.Proofs.Ytimpngmmmoaejaa.StrP
set_option linter.unusedVariables false
set_option maxRecDepth 100000

def chLen (w : World) (b : Nat) : Nat := match w.heap[b]? with | some (.chan _ buf _ _ _ _) => buf.size | _ => 0
theorem ChS.len {w : World} {b : Nat} {l : List ByteArray} (h : ChS w b l) : chLen w b = l.length := by
  obtain ⟨cp, s, r, h⟩ := h
  unfold chLen
  rw [h]
  exact strs_size l
theorem rowB_next {l : List ByteArray} {k : Nat} {x : ByteArray} (hx : l[k]? = some x) : rowB (l.take (k + 1)) = (rowB (l.take k) && !decide (114 < (x.size : Int))) := by
  unfold rowB
  rw [List.take_add_one, hx]
  simp
theorem rowB_bad {l : List ByteArray} {k : Nat} {x : ByteArray} (hx : l[k]? = some x) (h : decide (114 < (x.size : Int)) = true) : rowB l = false := by
  unfold rowB
  rw [List.all_eq_false]
  exact ⟨x, List.mem_of_getElem? hx, by rw [h]; simp⟩
theorem is_cap_b (n : Int) (b : Bool) (h : (decide (1 ≤ n) && decide (n ≤ 32)) = b) (w : World) : Calls Try.prog 17 #[.int .i64 n] w fun e w' => e = .returned (.bool b) ∧ w = w' := by
  have := is_cap n w
  rwa [h] at this
set_option maxHeartbeats 8000000 in
theorem q_right {A : Option Addr} {n c : Nat} {l : List ByteArray} (cap lost : Int) {w : World} (ht : RowS w A n c l) (hs : l.length ≤ 100000) (hz : ∀ x ∈ l, x.size ≤ 1000000) :
    Calls Try.prog 10 #[qv cap (.slice A n c) lost] w fun e w' => e = .returned (.bool (rightQ cap l lost)) ∧ Below w.heap.size w w' := by
  obtain rfl := ht.len
  obtain ⟨w0, hw0⟩ : ∃ W, W = w.alloc (qo cap (.slice A l.length c) lost) := ⟨_, rfl⟩
  have B0 := Lib.hid (show Below w.heap.size w w0 by rw [hw0]; exact (Below.refl _ _).alloc (Nat.le_refl _) _)
  have Y : Bx w0 w.heap.size QT #[.int .i64 cap, .slice A l.length c, .int .i64 lost] := by rw [hw0]; exact Bx.new w _ _ rfl
  have hl := Lib.hid (line_of cap lost (ht.below B0.out) hs)
  have hZ := Lib.hid hz
  obtain ⟨y0, y1, y2⟩ := Bx.c3 Y
  have hyl := Y.lt
  clear ht hz Y
  cases h12 : (decide (1 ≤ cap) && decide (cap ≤ 32)) with
  | false =>
    have hq : rightQ cap l lost = false := by
      unfold rightQ
      rw [← Bool.and_assoc (decide (1 ≤ cap)), h12]; simp
    rw [hq]
    clear hl hq y1 y2
    go_enter Try.func10, Try.ntmps10
    go_wp2_with fail
    rw [← hw0]
    clear hw0
    go_at_call 17
    (with_reducible refine (is_cap_b cap _ h12 _).mono ?_)
    rintro e w9 ⟨rfl, rfl⟩
    go_wp2_with fail
    go_ret
    exact ⟨rfl, B0.out⟩
  | true =>
  cases h3 : decide ((l.length : Int) ≤ cap) with
  | false =>
    have hq : rightQ cap l lost = false := by
      unfold rightQ
      rw [h3]; simp
    have h3' : cap < (l.length : Int) := by simpa using h3
    rw [hq]
    clear hl hq y2 h3
    go_enter Try.func10, Try.ntmps10
    go_wp2_with fail
    rw [← hw0]
    clear hw0
    go_at_call 17
    (with_reducible refine (is_cap_b cap _ h12 _).mono ?_)
    rintro e w9 ⟨rfl, rfl⟩
    go_wp2_with fail
    go_ret
    exact ⟨rfl, B0.out⟩
  | true =>
  have h3' : ¬ cap < (l.length : Int) := by have : (l.length : Int) ≤ cap := by simpa using h3
                                            omega
  cases h4 : decide (0 ≤ lost) with
  | false =>
    have hq : rightQ cap l lost = false := by
      unfold rightQ
      rw [h4]; simp
    have h4' : lost < 0 := by simpa using h4
    rw [hq]
    clear hl hq h4 h3
    go_enter Try.func10, Try.ntmps10
    go_wp2_with fail
    rw [← hw0]
    clear hw0
    go_at_call 17
    (with_reducible refine (is_cap_b cap _ h12 _).mono ?_)
    rintro e w9 ⟨rfl, rfl⟩
    go_wp2_with fail
    go_ret
    exact ⟨rfl, B0.out⟩
  | true =>
  have h4' : ¬ lost < 0 := by have : (0 : Int) ≤ lost := by simpa using h4
                              omega
  cases h5 : decide (lost ≤ 1000000) with
  | false =>
    have hq : rightQ cap l lost = false := by
      unfold rightQ
      rw [h5]; simp
    have h5' : 1000000 < lost := by simpa using h5
    rw [hq]
    clear hl hq h4 h3 h5
    go_enter Try.func10, Try.ntmps10
    go_wp2_with fail
    rw [← hw0]
    clear hw0
    go_at_call 17
    (with_reducible refine (is_cap_b cap _ h12 _).mono ?_)
    rintro e w9 ⟨rfl, rfl⟩
    go_wp2_with fail
    go_ret
    exact ⟨rfl, B0.out⟩
  | true =>
  have h5' : ¬ 1000000 < lost := by have : lost ≤ 1000000 := by simpa using h5
                                    omega
  have hq : rightQ cap l lost = rowB l := by
    unfold rightQ
    rw [← Bool.and_assoc (decide (1 ≤ cap)), h12, h3, h4, h5]; simp
  rw [hq]
  clear hq h3 h4 h5
  go_enter Try.func10, Try.ntmps10
  go_wp2_with fail
  rw [← hw0]
  clear hw0
  go_at_call 17
  (with_reducible refine (is_cap_b cap _ h12 _).mono ?_)
  rintro e w9 ⟨rfl, rfl⟩
  go_wp2_with fail
  go_at_call 20
  (with_reducible refine hl.out.mono ?_)
  rintro e w1 ⟨b, rfl, hbb, hC, hB1⟩
  have B1 := Lib.hid (bt B0.out hB1)
  have hbw := Lib.hid (show w.heap.size ≤ b by have := B0.out.size; omega)
  clear hl hB1 hbb y0 y1 y2 hyl h3' h4' h5' h12 B0
  go_wp2_with fail
  go_loopw [3] (fun v3 wr => ∃ k : Nat, k ≤ l.length ∧ Below w.heap.size w wr ∧ ChS wr b (l.drop k) ∧ rowB (l.take k) = true) (fun _ wr => chLen wr b)
  case atStart => exact ⟨0, by omega, B1.out, hC, rfl⟩
  case round =>
    obtain ⟨k, hk, hb, hch, hrow⟩ := hrel
    have hmeas := Lib.hid hch.len
    obtain ⟨cp, s, r, hch⟩ := hch
    have hbr := Lib.hid (show b < wr.heap.size from (Array.getElem?_eq_some_iff.1 hch).1)
    go_upto_region 4 with fail
    by_cases hlk : k < l.length
    · obtain ⟨x, hx⟩ : ∃ x, l[k]? = some x := ⟨_, List.getElem?_eq_getElem hlk⟩
      have hd : l.drop k = x :: l.drop (k + 1) := by rw [List.drop_eq_getElem_cons hlk]; rw [List.getElem?_eq_getElem hlk] at hx; injection hx with hx; rw [hx]
      rw [hd] at hch
      have hxz := hZ.out x (List.mem_of_getElem? hx)
      refine wp_region_at ?_
      refine AtOps.recv_buf rfl rfl (rs wr _ b 27 _ rfl rfl) hch (by simp [strs]) ?_
      rw [strs_rest, strs_first]
      obtain ⟨w2, hw2⟩ : ∃ W, W = wr.setChan b cp (strs (l.drop (k + 1))) true s (r + 1) false := ⟨_, rfl⟩
      rw [← hw2]
      have b2 := Lib.hid (show Below w.heap.size w w2 by rw [hw2]; exact below_setChan hb hbw.out _ _ _ _ _ _)
      have C2 := Lib.hid (show ChS w2 b (l.drop (k + 1)) by rw [hw2]; exact ⟨_, _, _, heap_setChan _ _ _ _ _ _ _ _ hbr.out⟩)
      have hsn := rowB_next hx
      cases hdd : decide (114 < (x.size : Int)) with
      | true =>
        have hf := Lib.hid (rowB_bad hx hdd)
        have hd' : (114 : Int) < x.size := by simpa using hdd
        clear hw2 hch hx hd hsn hrow hdd hmeas
        replace hb := Lib.hid hb
        refine AtOps.extract rfl rfl rfl rfl rfl ?_
        refine AtOps.nil ?_
        go_wp2_with fail
        go_ret
        exact ⟨by rw [hf.out]; rfl, b2.out⟩
      | false =>
        have hd' : ¬ (114 : Int) < x.size := by simpa using hdd
        have hr2 := Lib.hid (show rowB (l.take (k + 1)) = true by rw [hsn, hrow, hdd]; rfl)
        clear hw2 hch hx hd hsn hrow hdd
        replace hb := Lib.hid hb
        refine AtOps.extract rfl rfl rfl rfl rfl ?_
        refine AtOps.nil ?_
        go_wp2_with fail
        go_roundw
        case rel => exact ⟨k + 1, by omega, b2.out, C2.out, hr2.out⟩
        case measure =>
          have h2 := C2.out.len
          have h1 := hmeas.out
          rw [List.length_drop] at h1 h2
          omega
    · obtain rfl : k = l.length := by omega
      rw [List.drop_length] at hch
      rw [List.take_length] at hrow
      refine wp_region_at ?_
      refine AtOps.recv_shut rfl rfl (rs wr _ b 27 _ rfl rfl) hch ?_
      refine AtOps.extract rfl rfl rfl rfl rfl ?_
      refine AtOps.nil ?_
      replace hrow := Lib.hid hrow
      replace hb := Lib.hid hb
      replace hch := Lib.hid hch
      go_wp2_with fail
      go_ret
      exact ⟨by rw [hrow.out]; rfl, hb.out⟩
set_option maxHeartbeats 4000000 in
theorem q_lose (cap lost : Int) (A : Option Addr) (n c : Nat) (k : Nat) (w : World) (hk : k ≤ 1000000) (h0 : 0 ≤ lost) (h1 : lost ≤ 1000000) :
    Calls Try.prog 18 #[qv cap (.slice A n c) lost, .int .i64 k] w fun e w' => e = .returned (qv cap (.slice A n c) (min (lost + k) 1000000)) ∧ Below w.heap.size w w' := by
  obtain ⟨m, hm⟩ : ∃ m, min (lost + k) 1000000 = m := ⟨_, rfl⟩
  rw [hm]
  go_enter Try.func18, Try.ntmps18
  by_cases hc : lost + k ≤ 1000000
  · have hc2 : ¬ 1000000 < lost + (k : Int) := by omega
    obtain rfl : lost + (k : Int) = m := by rw [← hm]; omega
    replace hm := Lib.hid hm
    go_wp2_with fail
    refine bodyPost_ret (v := qv cap (.slice A n c) (lost + k)) (by simp [results, Try.results18, go_sem]) rfl ⟨rfl, ((Below.refl _ _).alloc (Nat.le_refl _) _).alloc (by simp) _⟩
  · have hc2 : 1000000 < lost + (k : Int) := by omega
    obtain rfl : 1000000 = m := by rw [← hm]; omega
    replace hm := Lib.hid hm
    go_wp2_with fail
    refine bodyPost_ret (v := qv cap (.slice A n c) 1000000) (by simp [results, Try.results18, go_sem]) rfl ⟨rfl, ((Below.refl _ _).alloc (Nat.le_refl _) _).alloc (by simp) _⟩
abbrev nilQ : Value := qv 0 (.slice none 0 0) 0
set_option maxHeartbeats 4000000 in
theorem q_new_yes (n : Int) (w : World) (h : (decide (1 ≤ n) && decide (n ≤ 32)) = true) : Calls Try.prog 6 #[.int .i64 n] w fun e w' => e = .returned (.tuple #[qv n (.slice none 0 0) 0, .int .i64 0]) ∧ Below w.heap.size w w' := by
  go_enter Try.func6, Try.ntmps6
  go_wp2_with (go_at_call 17; (with_reducible refine (is_cap_b n _ h _).mono ?_); rintro e w9 ⟨rfl, rfl⟩)
  refine bodyPost_ret (v := .tuple #[qv n (.slice none 0 0) 0, .int .i64 0]) (by simp [results, Try.results6, go_sem]) rfl ⟨rfl, (Below.refl _ _).alloc (Nat.le_refl _) _⟩
set_option maxHeartbeats 4000000 in
theorem q_new_no (n : Int) (w : World) (h : (decide (1 ≤ n) && decide (n ≤ 32)) = false) : Calls Try.prog 6 #[.int .i64 n] w fun e w' => e = .returned (.tuple #[nilQ, .int .i64 2]) ∧ Below w.heap.size w w' := by
  go_enter Try.func6, Try.ntmps6
  go_wp2_with (go_at_call 17; (with_reducible refine (is_cap_b n _ h _).mono ?_); rintro e w9 ⟨rfl, rfl⟩)
  refine bodyPost_ret (v := .tuple #[nilQ, .int .i64 2]) (by simp [results, Try.results6, go_sem]) rfl ⟨rfl, (Below.refl _ _).alloc (Nat.le_refl _) _⟩
end Go.Proofs.Ytimpngmmmoaejaa.ChanP
