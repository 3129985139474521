/-
  fdb.Right, New, Find.
-/
import Derived.Test.YtnghilcjecjljaaFdbH
namespace Go.Proofs.Ytnghilcjecjljaa.FdbP
open Go.RowKit Go.Sort Go.Proofs.Ytnghilcjecjljaa.SliceP Go.Proofs.Ytnghilcjecjljaa.MacP
set_option linter.unusedVariables false
set_option maxRecDepth 100000

def bucketsOk (bs : List (List E)) (s : Int) : Bool := (List.range bs.length).all fun k => bucketOk bs.length s k (bs.getD k [])
/-- A table may be. -/
def rightT (bs : List (List E)) (s ag : Int) : Bool := sizesB bs.length s ag && bucketsOk bs s
theorem bucketsOk_no {bs : List (List E)} {s : Int} {k : Nat} {l : List E} (hk : bs[k]? = some l) (h : bucketOk bs.length s k l = false) : bucketsOk bs s = false := by
  unfold bucketsOk
  rw [List.all_eq_false]
  have hl := (List.getElem?_eq_some_iff.1 hk).1
  refine ⟨k, List.mem_range.2 hl, ?_⟩
  rw [List.getD_eq_getElem?_getD, hk, Option.getD_some, h]; simp
theorem bucketsOk_yes {bs : List (List E)} {s : Int} (h : ∀ k l, bs[k]? = some l → bucketOk bs.length s k l = true) : bucketsOk bs s = true := by
  unfold bucketsOk
  rw [List.all_eq_true]
  intro k hk
  have hl := List.mem_range.1 hk
  rw [List.getD_eq_getElem?_getD, List.getElem?_eq_getElem hl, Option.getD_some]
  exact h k _ (List.getElem?_eq_getElem hl)
theorem sizesB_num {n s a : Int} (h : sizesB n s a = true) : numB n = true := by
  unfold sizesB at h
  rw [Bool.and_eq_true] at h
  exact h.1
def Small (bs : List (List E)) : Prop := bs.length ≤ 1000000 ∧ ∀ xs ∈ bs, xs.length ≤ 1000000
set_option maxHeartbeats 4000000 in
theorem fdRight {A : Option Addr} {n c : Nat} {bs : List (List E)} (s ag : Int) {w : World} (ht : TabS w A n c bs) (hs : Small bs) (r : Bool) (hr : rightT bs s ag = r) :
    Calls Try.prog 12 #[tbv (.slice A n c) s ag] w (IsB w r) := by
  obtain rfl := ht.len
  obtain ⟨w0, hw0⟩ : ∃ w0, w0 = w.alloc (tObj (.slice A bs.length c) s ag) := ⟨_, rfl⟩
  have B0 : Below w.heap.size w w0 := by rw [hw0]; exact (Below.refl _ _).alloc (Nat.le_refl _) _
  have Y : Bx w0 w.heap.size 24 #[.slice A bs.length c, .int .i64 s, .int .i64 ag] := by rw [hw0]; exact Bx.new w _ _ rfl
  have ht0 := Lib.hid ht
  have hs1 := hs.1
  have hs2 := Lib.hid hs.2
  have hz0 : w.heap.size < w0.heap.size := Y.lt
  clear ht hs
  cases hsz : sizesB bs.length s ag with
  | false =>
    have hr' : r = false := by rw [← hr]; unfold rightT; rw [hsz, Bool.false_and]
    have hc := Lib.hid fun W => sizes_is bs.length s ag W (by omega) false hsz
    clear hr hsz
    replace hr' := Lib.hid hr'
    go_enter Try.func12, Try.ntmps12
    go_wp2_with fail
    rw [← hw0]
    clear hw0
    go_at_call 32
    (with_reducible refine (hc.out _).mono ?_)
    rintro e w1 ⟨rfl, hb1⟩
    have B1 := Lib.hid (bt B0 hb1)
    clear hb1
    go_wp2_with fail
    go_ret
    exact ⟨by rw [hr'.out]; rfl, B1.out⟩
  | true =>
    have hr' : r = bucketsOk bs s := by rw [← hr]; unfold rightT; rw [hsz, Bool.true_and]
    have hn := Lib.hid (sizesB_num hsz)
    have hc := Lib.hid fun W => sizes_is bs.length s ag W (by omega) true hsz
    clear hr hsz
    replace hr' := Lib.hid hr'
    go_enter Try.func12, Try.ntmps12
    go_wp2_with fail
    rw [← hw0]
    clear hw0
    go_at_call 32
    (with_reducible refine (hc.out _).mono ?_)
    rintro e w1 ⟨rfl, hb1⟩
    have y0 := (Y.below hb1).c (i := 0) rfl
    replace Y := Lib.hid Y
    clear hc
    go_wp2_with fail
    clear y0
    replace hb1 := Lib.hid hb1
    go_loopw [16] (fun i wr => ∃ k : Nat, k ≤ bs.length ∧ i = .int .i64 k ∧ (∀ j l, j < k → bs[j]? = some l → bucketOk bs.length s j l = true) ∧ Below w0.heap.size w0 wr) (fun i _ => bs.length - (intOf i).toNat)
    case atStart => exact ⟨0, by omega, rfl, fun j l hj => by omega, hb1.out⟩
    case round =>
      obtain ⟨k, hk, rfl, hall, hb⟩ := hrel
      replace hall := Lib.hid hall
      have Br := bt B0 hb
      by_cases hlt : k < bs.length
      · obtain ⟨l, hx⟩ : ∃ x, bs[k]? = some x := ⟨_, List.getElem?_eq_getElem hlt⟩
        have hll := hs2.out l (List.mem_of_getElem? hx)
        have HT := Lib.hid (ht0.out.below Br)
        have y0 := (Y.out.below hb).c (i := 0) rfl
        have y1 := (Y.out.below hb).c (i := 1) rfl
        have y2 := (Y.out.below hb).c (i := 2) rfl
        have hx0 := Lib.hid hx
        cases hbo : bucketOk bs.length s k l with
        | false =>
          have hno := Lib.hid (bucketsOk_no hx hbo)
          have hcall := isBucket_any s ag HT.out hn.out hx hll
          rw [hbo] at hcall
          replace hcall := Lib.hid hcall
          clear hx hbo
          go_wp2_with fail
          go_at_call 40
          (with_reducible refine hcall.out.mono ?_)
          rintro e w2 ⟨rfl, hb2⟩
          have B2 := Lib.hid (bt Br hb2)
          clear hb2 y0 y1 y2
          go_wp2_with fail
          go_ret
          exact ⟨by rw [hr'.out, hno.out]; rfl, B2.out⟩
        | true =>
          have hcall := isBucket_any s ag HT.out hn.out hx hll
          rw [hbo] at hcall
          replace hcall := Lib.hid hcall
          replace hbo := Lib.hid hbo
          clear hx
          go_wp2_with fail
          go_at_call 40
          (with_reducible refine hcall.out.mono ?_)
          rintro e w2 ⟨rfl, hb2⟩
          have B2 := Lib.hid (hb.trans (hb2.mono hb.size))
          clear hb2 y0 y1 y2
          go_wp2_with fail
          go_roundw
          case rel => exact ⟨k + 1, by omega, by go_num, fun j l' hj hl' => by
            rcases Nat.lt_or_ge j k with h | h
            · exact hall.out j l' h hl'
            · obtain rfl : j = k := by omega
              rw [hx0.out] at hl'
              rw [← Option.some.inj hl']
              exact hbo.out, B2.out⟩
          case measure => simp [intOf]; omega
      · obtain rfl : k = bs.length := by omega
        have hyes := Lib.hid (bucketsOk_yes (bs := bs) (s := s) fun j l hl => hall.out j l (List.getElem?_eq_some_iff.1 hl).1 hl)
        replace Br := Lib.hid Br
        go_wp2_with fail
        go_ret
        exact ⟨by rw [hr'.out, hyes.out]; rfl, Br.out⟩
end Go.Proofs.Ytnghilcjecjljaa.FdbP
