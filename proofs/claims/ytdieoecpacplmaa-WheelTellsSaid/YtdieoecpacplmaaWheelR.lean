/-
  Contracts of footwayref05.May, ahead, Place, Right, Without, Due, Same, and of few.
-/
import Derived.Test.YtdieoecpacplmaaWheelI
namespace Go.Proofs.Ytdieoecpacplmaa.WheelP
open Go.RowKit Go.Sort Go.Proofs.Ytdieoecpacplmaa.SliceP Go.Proofs.Ytdieoecpacplmaa.MacP
set_option linter.unusedVariables false
set_option maxRecDepth 100000

set_option maxHeartbeats 1000000 in
theorem may_any (i a : Int) (w : World) : Calls Try.prog 16 #[tv i a] w fun e w' => e = .returned (.bool (okB i a)) ∧ Below w.heap.size w w' := by
  by_cases h0 : decide (0 ≤ i) = true
  · by_cases h1 : decide (0 ≤ a) = true
    · by_cases h2 : decide (a ≤ 1099511627776) = true
      · go_enter Try.func16, Try.ntmps16
        go_wp2
        go_ret
        exact ⟨by rw [okB, timeB, h0, h1, h2]; rfl, (Below.refl _ _).alloc (Nat.le_refl _) _⟩
      · replace h2 : decide (a ≤ 1099511627776) = false := by simpa using h2
        go_enter Try.func16, Try.ntmps16
        go_wp2
        go_ret
        exact ⟨by rw [okB, timeB, h0, h1, h2]; rfl, (Below.refl _ _).alloc (Nat.le_refl _) _⟩
    · replace h1 : decide (0 ≤ a) = false := by simpa using h1
      go_enter Try.func16, Try.ntmps16
      go_wp2
      go_ret
      exact ⟨by rw [okB, timeB, h0, h1]; rfl, (Below.refl _ _).alloc (Nat.le_refl _) _⟩
  · replace h0 : decide (0 ≤ i) = false := by simpa using h0
    go_enter Try.func16, Try.ntmps16
    go_wp2
    go_ret
    exact ⟨by rw [okB, h0]; rfl, (Below.refl _ _).alloc (Nat.le_refl _) _⟩
theorem may_is (i a : Int) (b : Bool) (h : okB i a = b) (w : World) : Calls Try.prog 16 #[tv i a] w fun e w' => e = .returned (.bool b) ∧ Below w.heap.size w w' := by
  subst h; exact may_any i a w

theorem two_alloc (w : World) (a b : Obj) : Below w.heap.size w ((w.alloc a).alloc b) := ((Below.refl _ _).alloc (Nat.le_refl _) _).alloc (by simp) _
set_option maxHeartbeats 1000000 in
theorem ahead_is (x y : T) (b : Bool) (h : decide (aheadP x y) = b) (w : World) : Calls Try.prog 29 #[tv x.id x.due, tv y.id y.due] w fun e w' => e = .returned (.bool b) ∧ Below w.heap.size w w' := by
  subst h
  by_cases h0 : x.due < y.due
  · have e : decide (aheadP x y) = true := by simp [aheadP, h0]
    rw [e]; clear e
    go_enter Try.func29, Try.ntmps29
    go_wp2
    go_ret
    exact ⟨rfl, two_alloc _ _ _⟩
  · have h0' : decide (x.due < y.due) = false := by simpa using h0
    by_cases h1 : x.due = y.due
    · by_cases h2 : x.id < y.id
      · have e : decide (aheadP x y) = true := by simp [aheadP, h1, h2]
        rw [e]; clear e
        have h1' : (x.due == y.due) = true := by simpa using h1
        clear h0 h1
        go_enter Try.func29, Try.ntmps29
        go_wp2
        go_ret
        exact ⟨rfl, two_alloc _ _ _⟩
      · have e : decide (aheadP x y) = false := by rw [decide_eq_false_iff_not]; unfold aheadP; omega
        rw [e]; clear e
        have h1' : (x.due == y.due) = true := by simpa using h1
        have h2' : decide (x.id < y.id) = false := by simpa using h2
        clear h0 h1 h2
        go_enter Try.func29, Try.ntmps29
        go_wp2
        go_ret
        exact ⟨rfl, two_alloc _ _ _⟩
    · have e : decide (aheadP x y) = false := by rw [decide_eq_false_iff_not]; unfold aheadP; omega
      rw [e]; clear e
      have h1' : (x.due == y.due) = false := by simpa using h1
      clear h0 h1
      go_enter Try.func29, Try.ntmps29
      go_wp2
      go_ret
      exact ⟨rfl, two_alloc _ _ _⟩

set_option maxHeartbeats 2000000 in
theorem place_any (A : Option Addr) (cap : Nat) (l : List T) (id : Int) (w : World) (hl : l.length ≤ 1000000) (h : SlT w A l) :
    Calls Try.prog 18 #[.slice A l.length cap, .int .i64 id] w fun e w' => e = .returned (.int .i64 (placeI l id)) ∧ Below w.heap.size w w' := by
  have H := Lib.hid h
  clear h
  go_enter Try.func18, Try.ntmps18
  go_wp2_with fail
  go_loopw [9] (fun i wr => ∃ k : Nat, k ≤ l.length ∧ i = .int .i64 k ∧ hasI (l.take k) id = false ∧ Below w.heap.size w wr) (fun i _ => l.length - (intOf i).toNat)
  case atStart => exact ⟨0, by omega, rfl, rfl, Below.refl _ _⟩
  case round =>
    obtain ⟨k, hk, rfl, hno, hb⟩ := hrel
    replace hno := Lib.hid hno
    by_cases hlk : k < l.length
    · obtain ⟨x, hx⟩ : ∃ x, l[k]? = some x := ⟨_, List.getElem?_eq_getElem hlk⟩
      obtain ⟨b, o, rfl, hbw, x0, x1⟩ := SlT.at_ H.out hx
      replace x0 := (hb.cell (p := ⟨b, _, none⟩) hbw).trans x0
      replace x1 := (hb.cell (p := ⟨b, _, none⟩) hbw).trans x1
      have hs := hb.size
      replace hx := Lib.hid hx
      cases hh : x.id == id
      all_goals
        go_wp2_with fail
      · go_roundw
        case rel => exact ⟨k + 1, by omega, by go_num, has_more hno.out hx.out hh, hb.alloc hs _⟩
        case measure => simp [intOf]; omega
      · go_ret
        exact ⟨by rw [place_hit hno.out hx.out hh]; rfl, hb.alloc hs _⟩
    · obtain rfl : k = l.length := by omega
      go_wp2_with fail
      go_ret
      exact ⟨by rw [place_none hno.out]; rfl, hb⟩
theorem place_is (A : Option Addr) (cap n : Nat) (l : List T) (id p : Int) (w : World) (hn : n = l.length) (hl : l.length ≤ 1000000) (h : SlT w A l) (hp : placeI l id = p) :
    Calls Try.prog 18 #[.slice A n cap, .int .i64 id] w fun e w' => e = .returned (.int .i64 p) ∧ Below w.heap.size w w' := by
  subst hn; subst hp; exact place_any A cap l id w hl h
theorem place_pos {l : List T} {id : Int} (h : hasI l id = true) : 0 ≤ placeI l id := by unfold placeI; rw [h]; simp
theorem place_min {l : List T} {id : Int} (h : hasI l id = false) : placeI l id = -1 := by unfold placeI; rw [h]; rfl

set_option maxHeartbeats 4000000 in
theorem ref_right_any {A : Option Addr} {n cap : Nat} {l : List T} {w : World} (h : RowT w A n cap l) (hl : l.length ≤ 1000) :
    Calls Try.prog 12 #[.slice A n cap] w fun e w' => e = .returned (.bool (rightB l)) ∧ Below w.heap.size w w' := by
  obtain ⟨rfl, h, hcap, _⟩ := h
  have H := Lib.hid h
  clear h
  go_enter Try.func12, Try.ntmps12
  go_wp2_with fail
  go_loopw [7] (fun i wr => ∃ k : Nat, k ≤ l.length ∧ i = .int .i64 k ∧ rightK l k = true ∧ Below w.heap.size w wr) (fun i _ => l.length - (intOf i).toNat)
  case atStart => exact ⟨0, by omega, rfl, rfl, Below.refl _ _⟩
  case round =>
    obtain ⟨k, hk, rfl, hrk, hb⟩ := hrel
    replace hrk := Lib.hid hrk
    by_cases hlk : k < l.length
    case neg =>
      obtain rfl : k = l.length := by omega
      go_wp2_with fail
      go_ret
      refine ⟨?_, hb⟩
      unfold rightB
      rw [hrk.out]
      simp [go_sem]
      omega
    obtain ⟨x, hx⟩ : ∃ x, l[k]? = some x := ⟨_, List.getElem?_eq_getElem hlk⟩
    obtain ⟨b, o, rfl, hbw, x0, x1⟩ := SlT.at_ H.out hx
    replace hx := Lib.hid hx
    have hSk := Lib.hid (SlT.take (SlT.below H.out hb) k)
    have hnk : Hid (k = (l.take k).length) := Lib.hid (by rw [List.length_take]; omega)
    have hnl : Hid ((l.take k).length ≤ 1000000) := Lib.hid (by rw [List.length_take]; omega)
    have hkc : (k : Int) ≤ (cap : Int) := by omega
    have hk0 : (0 : Int) ≤ (k : Int) := by omega
    have hb2 : b < wr.heap.size := Nat.lt_of_lt_of_le hbw hb.size
    replace x0 := (hb.cell (p := ⟨b, _, none⟩) hbw).trans x0
    replace x1 := (hb.cell (p := ⟨b, _, none⟩) hbw).trans x1
    clear hbw
    cases hok : okB x.id x.due
    case false =>
      replace hok := Lib.hid hok
      go_wp2_with fail
      obtain ⟨W1, hW1⟩ : ∃ W1, W1 = wr.alloc (.cells #[.int .i64 x.id, .int .i64 x.due] 24) := ⟨_, rfl⟩
      have BW1 : Below w.heap.size w W1 := by rw [hW1]; exact hb.alloc hb.size _
      have x0_W1 : W1.cell? ⟨b, o + k * 2, none⟩ = some (.int .i64 x.id) := by rw [hW1, World.cell?_alloc_lt _ _ _ (show b < wr.heap.size from hb2)]; exact x0
      have x1_W1 : W1.cell? ⟨b, o + k * 2 + 1, none⟩ = some (.int .i64 x.due) := by rw [hW1, World.cell?_alloc_lt _ _ _ (show b < wr.heap.size from hb2)]; exact x1
      clear x0 x1
      have hzW1 : W1.heap.size = wr.heap.size + 1 := by rw [hW1]; simp
      have zW1_7 : b < W1.heap.size := by rw [hzW1]; have := hb2; omega
      clear hb2
      have z0_W1 : W1.cell? ⟨wr.heap.size, 0, none⟩ = some (.int .i64 x.id) := by rw [hW1]; go_simp
      have z1_W1 : W1.cell? ⟨wr.heap.size, 1, none⟩ = some (.int .i64 x.due) := by rw [hW1]; go_simp
      have hSk_W1 := Lib.hid (hSk.out.below (show Below wr.heap.size wr W1 by rw [hW1]; exact (Below.refl _ _).alloc (Nat.le_refl _) _))
      clear hSk
      have znW1 : wr.heap.size < W1.heap.size := by rw [hzW1]; omega
      rw [← hW1]
      clear hW1 hzW1 hb
      generalize wr.heap.size = nW1 at *
      go_wp2_with fail
      have K_x0 := cell_regrown x0_W1
      have K_x1 := cell_regrown x1_W1
      have K_z0 := cell_regrown z0_W1
      have K_z1 := cell_regrown z1_W1
      clear x0_W1 x1_W1 z0_W1 z1_W1
      have cC0 := fun (d : Nat) (os : Array Obj) => Calls.regrown_of (may_is x.id x.due _ hok.out (Go.Sort.grow (redrawn W1 d) os))
      refine wp_region_quiet_below (by kernel_rfl) (by kernel_rfl) ?_
      repeat (first | go_big_quiet_step (exact cC0 _ _) | quiet_step (exact cC0 _ _))
      refine wpQuiet_nil ?_
      intro _ hw'
      obtain ⟨⟨dq, osq⟩, hw''⟩ := hw'
      subst hw''
      have hbW2 := below_regrown W1 dq osq
      have x0_W2 := K_x0 dq osq
      have x1_W2 := K_x1 dq osq
      have z0_W2 := K_z0 dq osq
      have z1_W2 := K_z1 dq osq
      clear K_x0 K_x1 K_z0 K_z1 cC0 
      have zW2_36 : b < (Go.Sort.grow (redrawn W1 dq) osq).heap.size := Nat.lt_of_lt_of_le zW1_7 hbW2.size
      clear zW1_7
      have zW2_38 : nW1 < (Go.Sort.grow (redrawn W1 dq) osq).heap.size := Nat.lt_of_lt_of_le znW1 hbW2.size
      clear znW1
      have hSk_W2 := Lib.hid (hSk_W1.out.below hbW2)
      clear hSk_W1
      have BW2 : Below w.heap.size w (Go.Sort.grow (redrawn W1 dq) osq) := BW1.trans (hbW2.mono BW1.size)
      clear hbW2 BW1
      generalize Go.Sort.grow (redrawn W1 dq) osq = W2 at *
      go_wp2_with fail
      go_ret
      exact ⟨by rw [right_not hx.out (bad_ok hok.out)]; rfl, BW2⟩
    case true =>
      replace hok := Lib.hid hok
      cases hh : hasI (l.take k) x.id
      case true =>
        obtain ⟨pl, hpl⟩ : ∃ pl, placeI (l.take k) x.id = pl := ⟨_, rfl⟩
        have hp0 : 0 ≤ pl := by rw [← hpl]; exact place_pos hh
        replace hh := Lib.hid hh
        replace hpl := Lib.hid hpl
        go_wp2_with fail
        obtain ⟨W1, hW1⟩ : ∃ W1, W1 = wr.alloc (.cells #[.int .i64 x.id, .int .i64 x.due] 24) := ⟨_, rfl⟩
        have BW1 : Below w.heap.size w W1 := by rw [hW1]; exact hb.alloc hb.size _
        have x0_W1 : W1.cell? ⟨b, o + k * 2, none⟩ = some (.int .i64 x.id) := by rw [hW1, World.cell?_alloc_lt _ _ _ (show b < wr.heap.size from hb2)]; exact x0
        have x1_W1 : W1.cell? ⟨b, o + k * 2 + 1, none⟩ = some (.int .i64 x.due) := by rw [hW1, World.cell?_alloc_lt _ _ _ (show b < wr.heap.size from hb2)]; exact x1
        clear x0 x1
        have hzW1 : W1.heap.size = wr.heap.size + 1 := by rw [hW1]; simp
        have zW1_7 : b < W1.heap.size := by rw [hzW1]; have := hb2; omega
        clear hb2
        have z0_W1 : W1.cell? ⟨wr.heap.size, 0, none⟩ = some (.int .i64 x.id) := by rw [hW1]; go_simp
        have z1_W1 : W1.cell? ⟨wr.heap.size, 1, none⟩ = some (.int .i64 x.due) := by rw [hW1]; go_simp
        have hSk_W1 := Lib.hid (hSk.out.below (show Below wr.heap.size wr W1 by rw [hW1]; exact (Below.refl _ _).alloc (Nat.le_refl _) _))
        clear hSk
        have znW1 : wr.heap.size < W1.heap.size := by rw [hzW1]; omega
        rw [← hW1]
        clear hW1 hzW1 hb
        generalize wr.heap.size = nW1 at *
        go_wp2_with fail
        have K_x0 := cell_regrown x0_W1
        have K_x1 := cell_regrown x1_W1
        have K_z0 := cell_regrown z0_W1
        have K_z1 := cell_regrown z1_W1
        clear x0_W1 x1_W1 z0_W1 z1_W1
        have cC0 := fun (d : Nat) (os : Array Obj) => Calls.regrown_of (may_is x.id x.due _ hok.out (Go.Sort.grow (redrawn W1 d) os))
        have cC1 := fun (d : Nat) (os : Array Obj) => Calls.regrown_of (place_is (some ⟨b, o, none⟩) cap k (l.take k) x.id _ (Go.Sort.grow (redrawn W1 d) os) hnk.out hnl.out (SlT.below hSk_W1.out (below_regrown W1 d os)) hpl.out)
        refine wp_region_quiet_below (by kernel_rfl) (by kernel_rfl) ?_
        repeat (first | go_big_quiet_step (first | exact cC0 _ _ | exact cC1 _ _) | quiet_step (first | exact cC0 _ _ | exact cC1 _ _))
        refine wpQuiet_nil ?_
        intro _ hw'
        obtain ⟨⟨dq, osq⟩, hw''⟩ := hw'
        subst hw''
        have hbW2 := below_regrown W1 dq osq
        have x0_W2 := K_x0 dq osq
        have x1_W2 := K_x1 dq osq
        have z0_W2 := K_z0 dq osq
        have z1_W2 := K_z1 dq osq
        clear K_x0 K_x1 K_z0 K_z1 cC0 cC1 
        have zW2_37 : b < (Go.Sort.grow (redrawn W1 dq) osq).heap.size := Nat.lt_of_lt_of_le zW1_7 hbW2.size
        clear zW1_7
        have zW2_39 : nW1 < (Go.Sort.grow (redrawn W1 dq) osq).heap.size := Nat.lt_of_lt_of_le znW1 hbW2.size
        clear znW1
        have hSk_W2 := Lib.hid (hSk_W1.out.below hbW2)
        clear hSk_W1
        have BW2 : Below w.heap.size w (Go.Sort.grow (redrawn W1 dq) osq) := BW1.trans (hbW2.mono BW1.size)
        clear hbW2 BW1
        generalize Go.Sort.grow (redrawn W1 dq) osq = W2 at *
        go_wp2_with fail
        go_ret
        exact ⟨by rw [right_not hx.out (bad_has hh.out)]; rfl, BW2⟩
      case false =>
        have hpl := Lib.hid (place_min hh)
        replace hh := Lib.hid hh
        match k, hk with
        | 0, _ =>
          rw [Nat.zero_mul, Nat.add_zero] at x0 x1
          go_wp2_with fail
          obtain ⟨W1, hW1⟩ : ∃ W1, W1 = wr.alloc (.cells #[.int .i64 x.id, .int .i64 x.due] 24) := ⟨_, rfl⟩
          have BW1 : Below w.heap.size w W1 := by rw [hW1]; exact hb.alloc hb.size _
          have x0_W1 : W1.cell? ⟨b, o, none⟩ = some (.int .i64 x.id) := by rw [hW1, World.cell?_alloc_lt _ _ _ (show b < wr.heap.size from hb2)]; exact x0
          have x1_W1 : W1.cell? ⟨b, o + 1, none⟩ = some (.int .i64 x.due) := by rw [hW1, World.cell?_alloc_lt _ _ _ (show b < wr.heap.size from hb2)]; exact x1
          clear x0 x1
          have hzW1 : W1.heap.size = wr.heap.size + 1 := by rw [hW1]; simp
          have zW1_7 : b < W1.heap.size := by rw [hzW1]; have := hb2; omega
          clear hb2
          have z0_W1 : W1.cell? ⟨wr.heap.size, 0, none⟩ = some (.int .i64 x.id) := by rw [hW1]; go_simp
          have z1_W1 : W1.cell? ⟨wr.heap.size, 1, none⟩ = some (.int .i64 x.due) := by rw [hW1]; go_simp
          have hSk_W1 := Lib.hid (hSk.out.below (show Below wr.heap.size wr W1 by rw [hW1]; exact (Below.refl _ _).alloc (Nat.le_refl _) _))
          clear hSk
          have znW1 : wr.heap.size < W1.heap.size := by rw [hzW1]; omega
          rw [← hW1]
          clear hW1 hzW1 hb
          generalize wr.heap.size = nW1 at *
          go_wp2_with fail
          have K_x0 := cell_regrown x0_W1
          have K_x1 := cell_regrown x1_W1
          have K_z0 := cell_regrown z0_W1
          have K_z1 := cell_regrown z1_W1
          clear x0_W1 x1_W1 z0_W1 z1_W1
          have cC0 := fun (d : Nat) (os : Array Obj) => Calls.regrown_of (may_is x.id x.due _ hok.out (Go.Sort.grow (redrawn W1 d) os))
          have cC1 := fun (d : Nat) (os : Array Obj) => Calls.regrown_of (place_is (some ⟨b, o, none⟩) cap 0 (l.take 0) x.id _ (Go.Sort.grow (redrawn W1 d) os) hnk.out hnl.out (SlT.below hSk_W1.out (below_regrown W1 d os)) hpl.out)
          refine wp_region_quiet_below (by kernel_rfl) (by kernel_rfl) ?_
          repeat (first | go_big_quiet_step (first | exact cC0 _ _ | exact cC1 _ _) | quiet_step (first | exact cC0 _ _ | exact cC1 _ _))
          refine wpQuiet_nil ?_
          intro _ hw'
          obtain ⟨⟨dq, osq⟩, hw''⟩ := hw'
          subst hw''
          have hbW2 := below_regrown W1 dq osq
          have x0_W2 := K_x0 dq osq
          have x1_W2 := K_x1 dq osq
          have z0_W2 := K_z0 dq osq
          have z1_W2 := K_z1 dq osq
          clear K_x0 K_x1 K_z0 K_z1 cC0 cC1 
          have zW2_37 : b < (Go.Sort.grow (redrawn W1 dq) osq).heap.size := Nat.lt_of_lt_of_le zW1_7 hbW2.size
          clear zW1_7
          have zW2_39 : nW1 < (Go.Sort.grow (redrawn W1 dq) osq).heap.size := Nat.lt_of_lt_of_le znW1 hbW2.size
          clear znW1
          have hSk_W2 := Lib.hid (hSk_W1.out.below hbW2)
          clear hSk_W1
          have BW2 : Below w.heap.size w (Go.Sort.grow (redrawn W1 dq) osq) := BW1.trans (hbW2.mono BW1.size)
          clear hbW2 BW1
          generalize Go.Sort.grow (redrawn W1 dq) osq = W2 at *
          go_wp2_with fail
          go_roundw
          case rel => exact ⟨0 + 1, by omega, by go_num, right_more hrk.out hx.out (good_zero hok.out hh.out), BW2⟩
          case measure => simp [intOf]; omega
        | j + 1, _ =>
          obtain ⟨y, hy⟩ : ∃ y, l[j]? = some y := ⟨_, List.getElem?_eq_getElem (by omega)⟩
          obtain ⟨b', o', e, _, y0, y1⟩ := SlT.at_ H.out hy
          obtain ⟨rfl, rfl⟩ : b = b' ∧ o = o' := by simpa using e
          clear e
          replace y0 := (hb.cell (p := ⟨b, _, none⟩) (by assumption)).trans y0
          replace y1 := (hb.cell (p := ⟨b, _, none⟩) (by assumption)).trans y1
          have hyid : y.id ≠ x.id := has_false.1 hh.out y (by rw [List.take_add_one, hy]; simp)
          replace hy := Lib.hid hy
          have hwr : IntKind.i64.wrap ((j : Int) + 1 - 1) = (j : Int) := IntWalk.i64_in _ (by omega) |>.trans (by omega)
          have hjl : (j : Int) < (l.length : Int) := by omega
          have hj0 : (0 : Int) ≤ (j : Int) := by omega
          by_cases hc : aheadP y x
          · have hc' := Lib.hid (show decide (aheadP y x) = true by simpa using hc)
            have hg : Hid (¬ 0 < cmpT y x) := Lib.hid (by rw [cmpT_pos]; exact ahead_asymm hc)
            clear hyid hc
            go_wp2_with fail
            obtain ⟨W1, hW1⟩ : ∃ W1, W1 = wr.alloc (.cells #[.int .i64 x.id, .int .i64 x.due] 24) := ⟨_, rfl⟩
            have BW1 : Below w.heap.size w W1 := by rw [hW1]; exact hb.alloc hb.size _
            have x0_W1 : W1.cell? ⟨b, o + (j + 1) * 2, none⟩ = some (.int .i64 x.id) := by rw [hW1, World.cell?_alloc_lt _ _ _ (show b < wr.heap.size from hb2)]; exact x0
            have x1_W1 : W1.cell? ⟨b, o + (j + 1) * 2 + 1, none⟩ = some (.int .i64 x.due) := by rw [hW1, World.cell?_alloc_lt _ _ _ (show b < wr.heap.size from hb2)]; exact x1
            have y0_W1 : W1.cell? ⟨b, o + j * 2, none⟩ = some (.int .i64 y.id) := by rw [hW1, World.cell?_alloc_lt _ _ _ (show b < wr.heap.size from hb2)]; exact y0
            have y1_W1 : W1.cell? ⟨b, o + j * 2 + 1, none⟩ = some (.int .i64 y.due) := by rw [hW1, World.cell?_alloc_lt _ _ _ (show b < wr.heap.size from hb2)]; exact y1
            clear x0 x1 y0 y1
            have hzW1 : W1.heap.size = wr.heap.size + 1 := by rw [hW1]; simp
            have zW1_9 : b < W1.heap.size := by rw [hzW1]; have := hb2; omega
            clear hb2
            have z0_W1 : W1.cell? ⟨wr.heap.size, 0, none⟩ = some (.int .i64 x.id) := by rw [hW1]; go_simp
            have z1_W1 : W1.cell? ⟨wr.heap.size, 1, none⟩ = some (.int .i64 x.due) := by rw [hW1]; go_simp
            have hSk_W1 := Lib.hid (hSk.out.below (show Below wr.heap.size wr W1 by rw [hW1]; exact (Below.refl _ _).alloc (Nat.le_refl _) _))
            clear hSk
            have znW1 : wr.heap.size < W1.heap.size := by rw [hzW1]; omega
            rw [← hW1]
            clear hW1 hzW1 hb
            generalize wr.heap.size = nW1 at *
            go_wp2_with fail
            have K_x0 := cell_regrown x0_W1
            have K_x1 := cell_regrown x1_W1
            have K_y0 := cell_regrown y0_W1
            have K_y1 := cell_regrown y1_W1
            have K_z0 := cell_regrown z0_W1
            have K_z1 := cell_regrown z1_W1
            clear x0_W1 x1_W1 y0_W1 y1_W1 z0_W1 z1_W1
            have cC0 := fun (d : Nat) (os : Array Obj) => Calls.regrown_of (may_is x.id x.due _ hok.out (Go.Sort.grow (redrawn W1 d) os))
            have cC1 := fun (d : Nat) (os : Array Obj) => Calls.regrown_of (place_is (some ⟨b, o, none⟩) cap (j + 1) (l.take (j + 1)) x.id _ (Go.Sort.grow (redrawn W1 d) os) hnk.out hnl.out (SlT.below hSk_W1.out (below_regrown W1 d os)) hpl.out)
            have cC2 := fun (d : Nat) (os : Array Obj) => Calls.regrown_of (ahead_is y x _ hc'.out (Go.Sort.grow (redrawn W1 d) os))
            refine wp_region_quiet_below (by kernel_rfl) (by kernel_rfl) ?_
            repeat (first | go_big_quiet_step (first | exact cC0 _ _ | exact cC1 _ _ | exact cC2 _ _) | quiet_step (first | exact cC0 _ _ | exact cC1 _ _ | exact cC2 _ _))
            refine wpQuiet_nil ?_
            intro _ hw'
            obtain ⟨⟨dq, osq⟩, hw''⟩ := hw'
            subst hw''
            have hbW2 := below_regrown W1 dq osq
            have x0_W2 := K_x0 dq osq
            have x1_W2 := K_x1 dq osq
            have y0_W2 := K_y0 dq osq
            have y1_W2 := K_y1 dq osq
            have z0_W2 := K_z0 dq osq
            have z1_W2 := K_z1 dq osq
            clear K_x0 K_x1 K_y0 K_y1 K_z0 K_z1 cC0 cC1 cC2 
            have zW2_44 : b < (Go.Sort.grow (redrawn W1 dq) osq).heap.size := Nat.lt_of_lt_of_le zW1_9 hbW2.size
            clear zW1_9
            have zW2_46 : nW1 < (Go.Sort.grow (redrawn W1 dq) osq).heap.size := Nat.lt_of_lt_of_le znW1 hbW2.size
            clear znW1
            have hSk_W2 := Lib.hid (hSk_W1.out.below hbW2)
            clear hSk_W1
            have BW2 : Below w.heap.size w (Go.Sort.grow (redrawn W1 dq) osq) := BW1.trans (hbW2.mono BW1.size)
            clear hbW2 BW1
            generalize Go.Sort.grow (redrawn W1 dq) osq = W2 at *
            go_wp2_with fail
            go_roundw
            case rel => exact ⟨j + 1 + 1, by omega, by go_num, right_more hrk.out hx.out (good_cmp hok.out hh.out hy.out (Int.not_lt.2 hg.out)), BW2⟩
            case measure => simp [intOf]; omega
          · have hc' := Lib.hid (show decide (aheadP y x) = false by simpa using hc)
            have hg : Hid (0 < cmpT y x) := Lib.hid (by rw [cmpT_pos]; exact ahead_total hc hyid)
            clear hyid hc
            go_wp2_with fail
            obtain ⟨W1, hW1⟩ : ∃ W1, W1 = wr.alloc (.cells #[.int .i64 x.id, .int .i64 x.due] 24) := ⟨_, rfl⟩
            have BW1 : Below w.heap.size w W1 := by rw [hW1]; exact hb.alloc hb.size _
            have x0_W1 : W1.cell? ⟨b, o + (j + 1) * 2, none⟩ = some (.int .i64 x.id) := by rw [hW1, World.cell?_alloc_lt _ _ _ (show b < wr.heap.size from hb2)]; exact x0
            have x1_W1 : W1.cell? ⟨b, o + (j + 1) * 2 + 1, none⟩ = some (.int .i64 x.due) := by rw [hW1, World.cell?_alloc_lt _ _ _ (show b < wr.heap.size from hb2)]; exact x1
            have y0_W1 : W1.cell? ⟨b, o + j * 2, none⟩ = some (.int .i64 y.id) := by rw [hW1, World.cell?_alloc_lt _ _ _ (show b < wr.heap.size from hb2)]; exact y0
            have y1_W1 : W1.cell? ⟨b, o + j * 2 + 1, none⟩ = some (.int .i64 y.due) := by rw [hW1, World.cell?_alloc_lt _ _ _ (show b < wr.heap.size from hb2)]; exact y1
            clear x0 x1 y0 y1
            have hzW1 : W1.heap.size = wr.heap.size + 1 := by rw [hW1]; simp
            have zW1_9 : b < W1.heap.size := by rw [hzW1]; have := hb2; omega
            clear hb2
            have z0_W1 : W1.cell? ⟨wr.heap.size, 0, none⟩ = some (.int .i64 x.id) := by rw [hW1]; go_simp
            have z1_W1 : W1.cell? ⟨wr.heap.size, 1, none⟩ = some (.int .i64 x.due) := by rw [hW1]; go_simp
            have hSk_W1 := Lib.hid (hSk.out.below (show Below wr.heap.size wr W1 by rw [hW1]; exact (Below.refl _ _).alloc (Nat.le_refl _) _))
            clear hSk
            have znW1 : wr.heap.size < W1.heap.size := by rw [hzW1]; omega
            rw [← hW1]
            clear hW1 hzW1 hb
            generalize wr.heap.size = nW1 at *
            go_wp2_with fail
            have K_x0 := cell_regrown x0_W1
            have K_x1 := cell_regrown x1_W1
            have K_y0 := cell_regrown y0_W1
            have K_y1 := cell_regrown y1_W1
            have K_z0 := cell_regrown z0_W1
            have K_z1 := cell_regrown z1_W1
            clear x0_W1 x1_W1 y0_W1 y1_W1 z0_W1 z1_W1
            have cC0 := fun (d : Nat) (os : Array Obj) => Calls.regrown_of (may_is x.id x.due _ hok.out (Go.Sort.grow (redrawn W1 d) os))
            have cC1 := fun (d : Nat) (os : Array Obj) => Calls.regrown_of (place_is (some ⟨b, o, none⟩) cap (j + 1) (l.take (j + 1)) x.id _ (Go.Sort.grow (redrawn W1 d) os) hnk.out hnl.out (SlT.below hSk_W1.out (below_regrown W1 d os)) hpl.out)
            have cC2 := fun (d : Nat) (os : Array Obj) => Calls.regrown_of (ahead_is y x _ hc'.out (Go.Sort.grow (redrawn W1 d) os))
            refine wp_region_quiet_below (by kernel_rfl) (by kernel_rfl) ?_
            repeat (first | go_big_quiet_step (first | exact cC0 _ _ | exact cC1 _ _ | exact cC2 _ _) | quiet_step (first | exact cC0 _ _ | exact cC1 _ _ | exact cC2 _ _))
            refine wpQuiet_nil ?_
            intro _ hw'
            obtain ⟨⟨dq, osq⟩, hw''⟩ := hw'
            subst hw''
            have hbW2 := below_regrown W1 dq osq
            have x0_W2 := K_x0 dq osq
            have x1_W2 := K_x1 dq osq
            have y0_W2 := K_y0 dq osq
            have y1_W2 := K_y1 dq osq
            have z0_W2 := K_z0 dq osq
            have z1_W2 := K_z1 dq osq
            clear K_x0 K_x1 K_y0 K_y1 K_z0 K_z1 cC0 cC1 cC2 
            have zW2_44 : b < (Go.Sort.grow (redrawn W1 dq) osq).heap.size := Nat.lt_of_lt_of_le zW1_9 hbW2.size
            clear zW1_9
            have zW2_46 : nW1 < (Go.Sort.grow (redrawn W1 dq) osq).heap.size := Nat.lt_of_lt_of_le znW1 hbW2.size
            clear znW1
            have hSk_W2 := Lib.hid (hSk_W1.out.below hbW2)
            clear hSk_W1
            have BW2 : Below w.heap.size w (Go.Sort.grow (redrawn W1 dq) osq) := BW1.trans (hbW2.mono BW1.size)
            clear hbW2 BW1
            generalize Go.Sort.grow (redrawn W1 dq) osq = W2 at *
            go_wp2_with fail
            go_ret
            exact ⟨by rw [right_not hx.out (bad_cmp hy.out hg.out)]; rfl, BW2⟩

theorem own_made (w : World) : OwnT (w.alloc (.cells #[] 24)) w.heap.size (.slice (some ⟨w.heap.size, 0, none⟩) 0 0) [] := ⟨World.ownsRow_made w #[] 0 (Nat.le_refl _) (by unfold maxLen; omega) rfl, Whole.nil⟩
set_option maxHeartbeats 2000000 in
theorem ref_without_any {A : Option Addr} {n cap : Nat} {l : List T} {w : World} (h : RowT w A n cap l) (hl : l.length ≤ 1000) (id : Int) :
    Calls Try.prog 19 #[.slice A n cap, .int .i64 id] w (RetT w (without l id)) := by
  obtain ⟨rfl, h, _, _⟩ := h
  have H := Lib.hid h
  clear h
  go_enter Try.func19, Try.ntmps19
  go_wp2_with fail
  go_loopw [5, 11] (fun v i wr => ∃ k : Nat, k ≤ l.length ∧ i = .int .i64 k ∧ OwnT wr w.heap.size v (without (l.take k) id) ∧ Below w.heap.size w wr) (fun _ i _ => l.length - (intOf i).toNat)
  case atStart => exact ⟨0, by omega, rfl, own_made w, (Below.refl _ _).alloc (Nat.le_refl _) _⟩
  case round =>
    obtain ⟨k, hk, rfl, hown, hb⟩ := hrel
    replace hown := Lib.hid hown
    by_cases hlk : k < l.length
    · obtain ⟨x, hx⟩ : ∃ x, l[k]? = some x := ⟨_, List.getElem?_eq_getElem hlk⟩
      obtain ⟨b, o, rfl, hbw, x0, x1⟩ := SlT.at_ H.out hx
      replace x0 := (hb.cell (p := ⟨b, _, none⟩) hbw).trans x0
      replace x1 := (hb.cell (p := ⟨b, _, none⟩) hbw).trans x1
      have hs := hb.size
      have hlen := without_length (l.take k) id
      rw [List.length_take] at hlen
      replace hlen : (without (l.take k) id).length ≤ 1000 := by omega
      cases hh : (x.id != id)
      · have hn := Lib.hid (without_no hx hh)
        clear hx
        go_wp2_with fail
        go_roundw
        case rel => exact ⟨k + 1, by omega, by go_num, by rw [hn.out]; exact hown.out.below ((Below.refl _ _).alloc (Nat.le_refl _) _), hb.alloc hs _⟩
        case measure => simp [intOf]; omega
      · have hn := Lib.hid (without_yes hx hh)
        clear hx
        have own2 := Lib.hid ((hown.out.below ((Below.refl _ _).alloc (Nat.le_refl _) (tObj x.id x.due))).below ((Below.refl _ _).alloc (Nat.le_refl _) (tObj x.id x.due)))
        have hn1 : Hid (((without (l.take k) id).map T.cells).length + ([x].map T.cells).length ≤ 1000000) := Lib.hid (by rw [flatT_length, flatT_length]; simp; omega)
        have hB2 : Hid (w.heap.size ≤ ((wr.alloc (tObj x.id x.due)).alloc (tObj x.id x.due)).heap.size) := Lib.hid (by simp; omega)
        have hsl := Lib.hid (sl_lit (wr.alloc (tObj x.id x.due)) x.id x.due (wr.heap.size + 1) (by simp))
        go_wp2_with (at_builtin; (refine wpList_append_sl rfl (.tmp 19) (.tmp 21) 22 rfl elT (by rfl) own2.out (by rfl) (by rfl) hsl.out (whole [x]) (fun h => by cases h) hn1.out hB2.out ?_); intro v' w1 own1 grow1 _)
        have B1 : Below w.heap.size w w1 := ((hb.alloc hs _).alloc (by simp; omega) _).grown grow1 (by simp; omega) (fun k hk => (hown.out.lt k hk).1)
        go_roundw
        case rel => exact ⟨k + 1, by omega, by go_num, by rw [hn.out]; rw [← List.map_append] at own1; exact own1, B1⟩
        case measure => simp [intOf]; omega
    · obtain rfl : k = l.length := by omega
      rw [List.take_length] at hown
      go_wp2_with fail
      go_ret
      exact retT hown.out hb

theorem le_yes {l : List T} {k : Nat} {x : T} {t : Int} (hx : l[k]? = some x) (h : x.due ≤ t) : (leT (l.take (k + 1)) t).length = (leT (l.take k) t).length + 1 := by
  unfold leT
  rw [List.take_add_one, hx, List.filter_append, List.length_append]; simp [h]
theorem le_no {l : List T} {k : Nat} {x : T} {t : Int} (hx : l[k]? = some x) (h : ¬ x.due ≤ t) : (leT (l.take (k + 1)) t).length = (leT (l.take k) t).length := by
  unfold leT
  rw [List.take_add_one, hx, List.filter_append, List.length_append]; simp [h]
set_option maxHeartbeats 2000000 in
theorem due_any {A : Option Addr} {n cap : Nat} {l : List T} {w : World} (h : RowT w A n cap l) (hl : l.length ≤ 1000) (t : Int) :
    Calls Try.prog 20 #[.slice A n cap, .int .i64 t] w fun e w' => e = .returned (.int .i64 ((leT l t).length : Nat)) ∧ Below w.heap.size w w' := by
  obtain ⟨rfl, h, _, _⟩ := h
  have H := Lib.hid h
  clear h
  go_enter Try.func20, Try.ntmps20
  go_wp2_with fail
  go_loopw [5, 10] (fun v i wr => ∃ k : Nat, k ≤ l.length ∧ i = .int .i64 k ∧ v = .int .i64 ((leT (l.take k) t).length : Nat) ∧ Below w.heap.size w wr) (fun _ i _ => l.length - (intOf i).toNat)
  case atStart => exact ⟨0, by omega, rfl, rfl, Below.refl _ _⟩
  case round =>
    obtain ⟨k, hk, rfl, rfl, hb⟩ := hrel
    by_cases hlk : k < l.length
    · obtain ⟨x, hx⟩ : ∃ x, l[k]? = some x := ⟨_, List.getElem?_eq_getElem hlk⟩
      obtain ⟨b, o, rfl, hbw, x0, x1⟩ := SlT.at_ H.out hx
      replace x0 := (hb.cell (p := ⟨b, _, none⟩) hbw).trans x0
      replace x1 := (hb.cell (p := ⟨b, _, none⟩) hbw).trans x1
      have hs := hb.size
      have hlen := (leT_sub (l.take k) t).length_le
      rw [List.length_take] at hlen
      by_cases hh : x.due ≤ t
      · have hn := Lib.hid (le_yes hx hh)
        clear hx
        obtain ⟨m, hm⟩ : ∃ m, (leT (l.take k) t).length = m := ⟨_, rfl⟩
        rw [hm] at hn hlen ⊢
        replace hlen : m ≤ 1000 := by omega
        clear hm
        go_wp2_with fail
        go_roundw
        case rel => exact ⟨k + 1, by omega, by go_num, by rw [hn.out]; go_num, hb.alloc hs _⟩
        case measure => simp [intOf]; omega
      · have hn := Lib.hid (le_no hx hh)
        clear hx
        replace hh : t < x.due := by omega
        go_wp2_with fail
        go_roundw
        case rel => exact ⟨k + 1, by omega, by go_num, by rw [hn.out], hb.alloc hs _⟩
        case measure => simp [intOf]; omega
    · obtain rfl : k = l.length := by omega
      rw [List.take_length]
      go_wp2_with fail
      go_ret
      exact ⟨rfl, hb⟩

set_option maxHeartbeats 1000000 in
theorem same_true {A B : Option Addr} {n c1 m c2 : Nat} {l l' : List T} {w : World} (hA : RowT w A n c1 l) (hB : RowT w B m c2 l') (he : l = l') (hl : l.length ≤ 1000) :
    Calls Try.prog 17 #[.slice A n c1, .slice B m c2] w fun e w' => e = .returned (.bool true) ∧ Below w.heap.size w w' := by
  subst he
  obtain ⟨rfl, hA, _, _⟩ := hA
  obtain ⟨rfl, hB, _, _⟩ := hB
  have HA := Lib.hid hA
  have HB := Lib.hid hB
  clear hA hB
  go_enter Try.func17, Try.ntmps17
  go_wp2_with fail
  go_loopw [13] (fun i wr => ∃ k : Nat, k ≤ l.length ∧ i = .int .i64 k ∧ Below w.heap.size w wr) (fun i _ => l.length - (intOf i).toNat)
  case atStart => exact ⟨0, by omega, rfl, Below.refl _ _⟩
  case round =>
    obtain ⟨k, hk, rfl, hbr⟩ := hrel
    by_cases hlt : k < l.length
    case neg =>
      obtain rfl : k = l.length := by omega
      go_wp2_with fail
      go_ret
      exact ⟨rfl, hbr⟩
    obtain ⟨x, hx⟩ : ∃ x, l[k]? = some x := ⟨_, List.getElem?_eq_getElem hlt⟩
    obtain ⟨b, o, rfl, hbw, x0, x1⟩ := SlT.at_ HA.out hx
    obtain ⟨g, o2, rfl, hgw, y0, y1⟩ := SlT.at_ HB.out hx
    clear hx
    replace x0 := (hbr.cell (p := ⟨b, _, none⟩) hbw).trans x0
    replace x1 := (hbr.cell (p := ⟨b, _, none⟩) hbw).trans x1
    replace y0 := (hbr.cell (p := ⟨g, _, none⟩) hgw).trans y0
    replace y1 := (hbr.cell (p := ⟨g, _, none⟩) hgw).trans y1
    go_wp2_with fail
    have K_x0 := cell_regrown x0
    have K_x1 := cell_regrown x1
    have K_y0 := cell_regrown y0
    have K_y1 := cell_regrown y1
    clear x0 x1 y0 y1
    refine wp_region_quiet_below (by kernel_rfl) (by kernel_rfl) ?_
    repeat (first | go_big_quiet_step (fail) | quiet_step (fail))
    refine wpQuiet_nil ?_
    intro _ hw'
    obtain ⟨⟨dq, osq⟩, hw''⟩ := hw'
    subst hw''
    have hbW1 := below_regrown wr dq osq
    have x0_W1 := K_x0 dq osq
    have x1_W1 := K_x1 dq osq
    have y0_W1 := K_y0 dq osq
    have y1_W1 := K_y1 dq osq
    clear K_x0 K_x1 K_y0 K_y1 
    have BW1 : Below w.heap.size w (Go.Sort.grow (redrawn wr dq) osq) := hbr.trans (hbW1.mono hbr.size)
    clear hbW1 hbr
    generalize Go.Sort.grow (redrawn wr dq) osq = W1 at *
    go_wp2_with fail
    go_roundw
    case rel => exact ⟨k + 1, by omega, by go_num, BW1⟩
    case measure => simp [intOf]; omega

theorem few_nil (w : World) : Calls Try.prog 7 #[.slice none 0 0] w fun e w' => e = .returned (.slice none 0 0) ∧ w = w' := by
  go_enter Try.func7, Try.ntmps7
  go_wp2
  go_ret
  exact ⟨rfl, rfl⟩
theorem ret_few (a : Addr) (n cap : Nat) : Ending.returned (.slice (some a) (min (n : Int) 70).toNat cap) = .returned (.slice (some a) (min n 70) cap) := by
  have e : (min (n : Int) 70).toNat = min n 70 := by omega
  rw [e]
theorem few_any (a : Addr) (n cap : Nat) (w : World) (hn : n ≤ cap) (hc : cap ≤ 9223372036854775807) : Calls Try.prog 7 #[.slice (some a) n cap] w fun e w' => e = .returned (.slice (some a) (min n 70) cap) ∧ w = w' := by
  go_enter Try.func7, Try.ntmps7
  go_wp2
  go_ret
  exact ⟨ret_few a n cap, rfl⟩
end Go.Proofs.Ytdieoecpacplmaa.WheelP
