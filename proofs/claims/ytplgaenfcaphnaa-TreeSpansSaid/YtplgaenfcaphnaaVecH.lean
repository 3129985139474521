/-
  Contracts of vec.Best and footwayref04.Best.
-/
import Derived.Test.YtplgaenfcaphnaaVecG
namespace Go.Proofs.Ytplgaenfcaphnaa.VecP
open Go.RowKit Go.Sort Go.Proofs.Ytplgaenfcaphnaa.SliceP
set_option linter.unusedVariables false
set_option maxRecDepth 100000

/-- The place of the first than which none is better, among the first k. -/
def bestI (l : List V) : Nat → Nat
  | 0 => 0
  | k + 1 => if (l[k]?.getD default).bet (l[bestI l k]?.getD default) then k else bestI l k
theorem bestI_lt (l : List V) : ∀ k, k ≤ l.length → 0 < l.length → bestI l k < l.length
  | 0, _, h => h
  | k + 1, h1, h => by
    unfold bestI
    split
    · omega
    · exact bestI_lt l k (by omega) h
theorem bestI_yes {l : List V} {k : Nat} {x y : V} (hx : l[k]? = some x) (hy : l[bestI l k]? = some y) (h : x.bet y = true) : bestI l (k + 1) = k := by
  rw [bestI, hx, hy]; simp [h]
theorem bestI_no {l : List V} {k : Nat} {x y : V} (hx : l[k]? = some x) (hy : l[bestI l k]? = some y) (h : x.bet y = false) : bestI l (k + 1) = bestI l k := by
  rw [bestI, hx, hy]; simp [h]
theorem bet_yes {x y : V} (h : x.bet y = true) : decide (cmpV x.r x.c x.b x.p y.r y.c y.b y.p < 0) = true := h
theorem bet_no {x y : V} (h : x.bet y = false) : decide (cmpV x.r x.c x.b x.p y.r y.c y.b y.p < 0) = false := h

set_option maxHeartbeats 1000000 in
theorem best_none (A : Option Addr) (cap : Nat) (w : World) :
    Calls Try.prog 51 #[.slice A 0 cap] w fun e w' => e = .returned (.tuple #[.int .i64 0, .int .i64 4]) ∧ Below w.heap.size w w' := by
  go_enter Try.func51, Try.ntmps51
  go_wp2_with fail
  go_ret2
  exact ⟨rfl, Below.refl _ _⟩
theorem areRight_is (A : Option Addr) (cap : Nat) (l : List V) (x : Bool) (w : World) (hl : l.length ≤ 9223372036854775807) (h : SlV w A l) (hx : l.all V.ok = x) :
    Calls Try.prog 72 #[.slice A l.length cap] w fun e w' => e = .returned (.bool x) ∧ Below w.heap.size w w' := by
  subst hx; exact areRight_any A cap l w hl h
set_option maxHeartbeats 1000000 in
theorem best_bad (A : Option Addr) (cap : Nat) (l : List V) (w : World) (hl : l.length ≤ 9223372036854775807) (h : SlV w A l) (hok : l.all V.ok = false) :
    Calls Try.prog 51 #[.slice A l.length cap] w fun e w' => e = .returned (.tuple #[.int .i64 0, .int .i64 1]) ∧ Below w.heap.size w w' := by
  have h0 : 0 < l.length := by
    cases l with
    | nil => simp at hok
    | cons _ _ => simp
  have H := Lib.hid h
  have HA := Lib.hid hok
  clear h hok
  go_enter Try.func51, Try.ntmps51
  go_wp2_with fail
  go_at_call 72
  (with_reducible refine (areRight_is _ _ _ _ _ hl H.out HA.out).mono ?_)
  rintro e w1 ⟨rfl, hb1⟩
  go_wp2_with fail
  go_ret2
  exact ⟨rfl, hb1⟩

set_option maxHeartbeats 2000000 in
theorem best_good (A : Option Addr) (cap : Nat) (l : List V) (w : World) (hl : l.length ≤ 9223372036854775807) (h0 : 0 < l.length) (h : SlV w A l) (hok : l.all V.ok = true) :
    Calls Try.prog 51 #[.slice A l.length cap] w fun e w' => e = .returned (.tuple #[.int .i64 (bestI l l.length : Nat), .int .i64 0]) ∧ Below w.heap.size w w' := by
  have H := Lib.hid h
  have HA := Lib.hid hok
  clear h hok
  go_enter Try.func51, Try.ntmps51
  go_wp2_with fail
  go_at_call 72
  (with_reducible refine (areRight_is _ _ _ _ _ hl H.out HA.out).mono ?_)
  rintro e w1 ⟨rfl, hb1⟩
  go_wp2_with fail
  go_loopw [4, 15] (fun bst i wr => ∃ k : Nat, k ≤ l.length ∧ i = .int .i64 k ∧ bst = .int .i64 (bestI l k : Nat) ∧ Below w.heap.size w wr) (fun _ i _ => l.length - (intOf i).toNat)
  case atStart => exact ⟨0, by omega, rfl, rfl, hb1⟩
  case round =>
    obtain ⟨k, hk, rfl, rfl, hb⟩ := hrel
    by_cases hlt : k < l.length
    · obtain ⟨x, hx⟩ : ∃ x, l[k]? = some x := ⟨_, List.getElem?_eq_getElem hlt⟩
      have hm := bestI_lt l k (by omega) h0
      obtain ⟨y, hy⟩ : ∃ y, l[bestI l k]? = some y := ⟨_, List.getElem?_eq_getElem hm⟩
      obtain ⟨b, o, rfl, hbw, x0, x1, x2, x3⟩ := H.out.at_ hx
      obtain ⟨b', o', e, _, y0, y1, y2, y3⟩ := H.out.at_ hy
      obtain ⟨rfl, rfl⟩ : b = b' ∧ o = o' := by simpa using e
      clear e
      have hs := hb.size
      have x0 := (hb.cell (p := ⟨b, _, none⟩) hbw).trans x0
      have x1 := (hb.cell (p := ⟨b, _, none⟩) hbw).trans x1
      have x2 := (hb.cell (p := ⟨b, _, none⟩) hbw).trans x2
      have x3 := (hb.cell (p := ⟨b, _, none⟩) hbw).trans x3
      have y0 := (hb.cell (p := ⟨b, _, none⟩) hbw).trans y0
      have y1 := (hb.cell (p := ⟨b, _, none⟩) hbw).trans y1
      have y2 := (hb.cell (p := ⟨b, _, none⟩) hbw).trans y2
      have y3 := (hb.cell (p := ⟨b, _, none⟩) hbw).trans y3
      have hyes := fun h => Lib.hid (bestI_yes hx hy h)
      have hno := fun h => Lib.hid (bestI_no hx hy h)
      clear hx hy
      obtain ⟨m, hmm⟩ : ∃ m, bestI l k = m := ⟨_, rfl⟩
      rw [hmm] at y0 y1 y2 y3 hm hno
      rw [hmm]
      clear hmm
      have hm' : (m : Int) < (l.length : Int) := by omega
      have hm0 : (0 : Int) ≤ (m : Int) := by omega
      go_wp2_with fail
      have hs' : b < wr.heap.size := by omega
      obtain ⟨W, hW⟩ : ∃ W, W = wr.alloc (.cells #[.int .i64 x.r, .int .i64 x.c, .int .i64 x.b, .int .i64 x.p] 103) := ⟨_, rfl⟩
      have BW : Below w.heap.size w W := by rw [hW]; exact hb.alloc (by omega) _
      have z0 : W.cell? ⟨wr.heap.size, 0, none⟩ = some (.int .i64 x.r) := by rw [hW]; go_simp
      have z1 : W.cell? ⟨wr.heap.size, 1, none⟩ = some (.int .i64 x.c) := by rw [hW]; go_simp
      have z2 : W.cell? ⟨wr.heap.size, 2, none⟩ = some (.int .i64 x.b) := by rw [hW]; go_simp
      have z3 : W.cell? ⟨wr.heap.size, 3, none⟩ = some (.int .i64 x.p) := by rw [hW]; go_simp
      have y0 : W.cell? ⟨b, o + m * 4, none⟩ = some (.int .i64 y.r) := by rw [hW]; go_simp
      have y1 : W.cell? ⟨b, o + m * 4 + 1, none⟩ = some (.int .i64 y.c) := by rw [hW]; go_simp
      have y2 : W.cell? ⟨b, o + m * 4 + 2, none⟩ = some (.int .i64 y.b) := by rw [hW]; go_simp
      have y3 : W.cell? ⟨b, o + m * 4 + 3, none⟩ = some (.int .i64 y.p) := by rw [hW]; go_simp
      rw [← hW]
      clear hW x0 x1 x2 x3
      have Kz0 := cell_regrown z0
      have Kz1 := cell_regrown z1
      have Kz2 := cell_regrown z2
      have Kz3 := cell_regrown z3
      have Ky0 := cell_regrown y0
      have Ky1 := cell_regrown y1
      have Ky2 := cell_regrown y2
      have Ky3 := cell_regrown y3
      clear z0 z1 z2 z3 y0 y1 y2 y3
      have cC := fun (d : Nat) (os : Array Obj) => Calls.regrown_of (compare_any x.r x.c x.b x.p y.r y.c y.b y.p (Go.Sort.grow (redrawn W d) os))
      cases hbt : x.bet y
      all_goals
        have hbt' := Lib.hid hbt
        first | have hd := bet_yes hbt | have hd := bet_no hbt
        clear hbt
        skip
        refine wp_region_quiet_below (by kernel_rfl) (by kernel_rfl) ?_
        repeat (first | go_big_quiet_step (exact cC _ _) | quiet_step (exact cC _ _))
        refine wpQuiet_nil ?_
        intro _ hw'
        obtain ⟨⟨dq, osq⟩, hw''⟩ := hw'
        subst hw''
        have hb1 := below_regrown W dq osq
        have B1 : Below w.heap.size w (Go.Sort.grow (redrawn W dq) osq) := BW.trans (hb1.mono BW.size)
        clear Kz0 Kz1 Kz2 Kz3 Ky0 Ky1 Ky2 Ky3 cC hb1 BW
        generalize Go.Sort.grow (redrawn W dq) osq = w1 at *
        go_wp2_with fail
        go_roundw
      case rel => exact ⟨k + 1, by omega, by go_num, by first | rw [(hyes hbt'.out).out] | rw [(hno hbt'.out).out], B1⟩
      case measure => simp [intOf]; omega
      case rel => exact ⟨k + 1, by omega, by go_num, by first | rw [(hyes hbt'.out).out] | rw [(hno hbt'.out).out], B1⟩
      case measure => simp [intOf]; omega
    · obtain rfl : k = l.length := by omega
      go_wp2_with fail
      go_ret2
      exact ⟨rfl, hb⟩

end Go.Proofs.Ytplgaenfcaphnaa.VecP
