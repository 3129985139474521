/-
  Contract of wheel.Right.
-/
import Derived.Test.YtnghilcjecjljaaWheelC
namespace Go.Proofs.Ytnghilcjecjljaa.WheelP
open Go.RowKit Go.Sort Go.Proofs.Ytnghilcjecjljaa.SliceP Go.Proofs.Ytnghilcjecjljaa.MacP
set_option linter.unusedVariables false
set_option maxRecDepth 100000

theorem isRight_is (i a : Int) (b : Bool) (h : okB i a = b) (w : World) : Calls Try.prog 74 #[tv i a] w fun e w' => e = .returned (.bool b) ∧ Below w.heap.size w w' := by
  subst h; exact isRight_any i a w
theorem has_is (A : Option Addr) (cap n : Nat) (l : List T) (id : Int) (b : Bool) (w : World) (hn : n = l.length) (hl : l.length ≤ 1000000) (h : SlT w A l) (hb : hasI l id = b) :
    Calls Try.prog 75 #[.slice A n cap, .int .i64 id] w fun e w' => e = .returned (.bool b) ∧ Below w.heap.size w w' := by
  subst hn; subst hb; exact has_any A cap l id w hl h
theorem compare_is (x y : T) (c : Int) (h : cmpT x y = c) (w : World) :
    Calls Try.prog 76 #[tv x.id x.due, tv y.id y.due] w fun e w' => e = .returned (.int .i64 c) ∧ Below w.heap.size w w' := by
  subst h; exact (compare_any x y w).mono fun _ _ ⟨h1, h2⟩ => ⟨h1, h2.below⟩

/-- What is wrong with the k-th. -/
def badB (l : List T) (k : Nat) (x : T) : Bool := !x.ok || hasI (l.take k) x.id || (decide (0 < k) && decide (0 < cmpT (l[k - 1]?.getD default) x))
def rightK (l : List T) (k : Nat) : Bool := (List.range k).all fun j => !badB l j (l[j]?.getD default)
def rightB (l : List T) : Bool := decide (l.length ≤ 64) && rightK l l.length
theorem right_more {l : List T} {k : Nat} {x : T} (h : rightK l k = true) (hx : l[k]? = some x) (hb : badB l k x = false) : rightK l (k + 1) = true := by
  unfold rightK at *
  rw [List.range_succ, List.all_append, h]
  simp [hx, hb]
theorem right_not {l : List T} {k : Nat} {x : T} (hx : l[k]? = some x) (hb : badB l k x = true) : rightB l = false := by
  have hk : k < l.length := (List.getElem?_eq_some_iff.1 hx).1
  unfold rightB rightK
  rw [Bool.and_eq_false_iff]
  right
  rw [List.all_eq_false]
  exact ⟨k, List.mem_range.2 hk, by simp [hx, hb]⟩
theorem bad_ok {l : List T} {k : Nat} {x : T} (h : okB x.id x.due = false) : badB l k x = true := by
  unfold badB T.ok; rw [h]; rfl
theorem bad_has {l : List T} {k : Nat} {x : T} (h : hasI (l.take k) x.id = true) : badB l k x = true := by
  unfold badB; rw [h]; simp
theorem bad_cmp {l : List T} {j : Nat} {x y : T} (hy : l[j]? = some y) (h : 0 < cmpT y x) : badB l (j + 1) x = true := by
  unfold badB; simp [hy, h]
theorem good_zero {l : List T} {x : T} (h : okB x.id x.due = true) (h1 : hasI (l.take 0) x.id = false) : badB l 0 x = false := by
  unfold badB T.ok; rw [h, h1]; rfl
theorem good_cmp {l : List T} {j : Nat} {x y : T} (h : okB x.id x.due = true) (h1 : hasI (l.take (j + 1)) x.id = false) (hy : l[j]? = some y) (h2 : ¬ 0 < cmpT y x) : badB l (j + 1) x = false := by
  unfold badB T.ok; rw [h, h1]; simp [hy]; omega

set_option maxHeartbeats 400000 in
theorem right_long (A : Option Addr) (cap : Nat) (l : List T) (w : World) (hl : l.length ≤ 1000) (h : 64 < l.length) :
    Calls Try.prog 59 #[.slice A l.length cap] w fun e w' => e = .returned (.bool (rightB l)) ∧ Below w.heap.size w w' := by
  have e : rightB l = false := by unfold rightB; rw [show decide (l.length ≤ 64) = false by simp; omega]; rfl
  rw [e]; clear e
  go_enter Try.func59, Try.ntmps59
  go_wp2
  go_ret
  exact ⟨rfl, Below.refl _ _⟩

set_option maxHeartbeats 4000000 in
theorem right_short (A : Option Addr) (cap : Nat) (l : List T) (w : World) (hl : l.length ≤ 64) (hcap : l.length ≤ cap) (h : SlT w A l) :
    Calls Try.prog 59 #[.slice A l.length cap] w fun e w' => e = .returned (.bool (rightB l)) ∧ Below w.heap.size w w' := by
  have H := Lib.hid h
  clear h
  have hl' : ¬ 64 < l.length := by omega
  go_enter Try.func59, Try.ntmps59
  go_wp2_with fail
  go_loopw [10] (fun i wr => ∃ k : Nat, k ≤ l.length ∧ i = .int .i64 k ∧ rightK l k = true ∧ Below w.heap.size w wr) (fun i _ => l.length - (intOf i).toNat)
  case atStart => exact ⟨0, by omega, rfl, rfl, Below.refl _ _⟩
  case round =>
    obtain ⟨k, hk, rfl, hrk, hb⟩ := hrel
    replace hrk := Lib.hid hrk
    by_cases hlk : k < l.length
    case neg =>
      obtain rfl : k = l.length := by omega
      go_wp2_with fail
      go_ret
      exact ⟨by unfold rightB; rw [hrk.out]; simp [hl], hb⟩
    obtain ⟨x, hx⟩ : ∃ x, l[k]? = some x := ⟨_, List.getElem?_eq_getElem hlk⟩
    obtain ⟨b, o, rfl, hbw, x0, x1⟩ := SlT.at_ H.out hx
    replace hx := Lib.hid hx
    have hSk := Lib.hid (SlT.take (SlT.below H.out hb) k)
    have hnk : Hid (k = (l.take k).length) := Lib.hid (by rw [List.length_take]; omega)
    have hnl : Hid ((l.take k).length ≤ 1000000) := Lib.hid (by rw [List.length_take]; omega)
    have hkc : (k : Int) ≤ (cap : Int) := by omega
    have hk0 : (0 : Int) ≤ (k : Int) := by omega
    have hb2 : b < wr.heap.size := Nat.lt_of_lt_of_le hbw hb.size
    replace x0 := (hb.cell (p := ⟨b, _, none⟩) hbw).trans x0
    replace x1 := (hb.cell (p := ⟨b, _, none⟩) hbw).trans x1
    clear hbw
    cases hok : okB x.id x.due
    case false =>
      replace hok := Lib.hid hok
      go_wp2_with fail
      obtain ⟨W1, hW1⟩ : ∃ W1, W1 = wr.alloc (.cells #[.int .i64 x.id, .int .i64 x.due] 75) := ⟨_, rfl⟩
      have BW1 : Below w.heap.size w W1 := by rw [hW1]; exact hb.alloc hb.size _
      have x0_W1 : W1.cell? ⟨b, o + k * 2, none⟩ = some (.int .i64 x.id) := by rw [hW1, World.cell?_alloc_lt _ _ _ (show b < wr.heap.size from hb2)]; exact x0
      have x1_W1 : W1.cell? ⟨b, o + k * 2 + 1, none⟩ = some (.int .i64 x.due) := by rw [hW1, World.cell?_alloc_lt _ _ _ (show b < wr.heap.size from hb2)]; exact x1
      clear x0 x1
      have hzW1 : W1.heap.size = wr.heap.size + 1 := by rw [hW1]; simp
      have zW1_7 : b < W1.heap.size := by rw [hzW1]; have := hb2; omega
      clear hb2
      have z0_W1 : W1.cell? ⟨wr.heap.size, 0, none⟩ = some (.int .i64 x.id) := by rw [hW1]; go_simp
      have z1_W1 : W1.cell? ⟨wr.heap.size, 1, none⟩ = some (.int .i64 x.due) := by rw [hW1]; go_simp
      have hSk_W1 := Lib.hid (hSk.out.below (show Below wr.heap.size wr W1 by rw [hW1]; exact (Below.refl _ _).alloc (Nat.le_refl _) _))
      clear hSk
      have znW1 : wr.heap.size < W1.heap.size := by rw [hzW1]; omega
      rw [← hW1]
      clear hW1 hzW1 hb
      generalize wr.heap.size = nW1 at *
      go_wp2_with fail
      have K_x0 := cell_regrown x0_W1
      have K_x1 := cell_regrown x1_W1
      have K_z0 := cell_regrown z0_W1
      have K_z1 := cell_regrown z1_W1
      clear x0_W1 x1_W1 z0_W1 z1_W1
      have cC0 := fun (d : Nat) (os : Array Obj) => Calls.regrown_of (isRight_is x.id x.due _ hok.out (Go.Sort.grow (redrawn W1 d) os))
      refine wp_region_quiet_below (by kernel_rfl) (by kernel_rfl) ?_
      repeat (first | go_big_quiet_step (exact cC0 _ _) | quiet_step (exact cC0 _ _))
      refine wpQuiet_nil ?_
      intro _ hw'
      obtain ⟨⟨dq, osq⟩, hw''⟩ := hw'
      subst hw''
      have hbW2 := below_regrown W1 dq osq
      have x0_W2 := K_x0 dq osq
      have x1_W2 := K_x1 dq osq
      have z0_W2 := K_z0 dq osq
      have z1_W2 := K_z1 dq osq
      clear K_x0 K_x1 K_z0 K_z1 cC0 
      have zW2_36 : b < (Go.Sort.grow (redrawn W1 dq) osq).heap.size := Nat.lt_of_lt_of_le zW1_7 hbW2.size
      clear zW1_7
      have zW2_38 : nW1 < (Go.Sort.grow (redrawn W1 dq) osq).heap.size := Nat.lt_of_lt_of_le znW1 hbW2.size
      clear znW1
      have hSk_W2 := Lib.hid (hSk_W1.out.below hbW2)
      clear hSk_W1
      have BW2 : Below w.heap.size w (Go.Sort.grow (redrawn W1 dq) osq) := BW1.trans (hbW2.mono BW1.size)
      clear hbW2 BW1
      generalize Go.Sort.grow (redrawn W1 dq) osq = W2 at *
      go_wp2_with fail
      go_ret
      exact ⟨by rw [right_not hx.out (bad_ok hok.out)]; rfl, BW2⟩
    case true =>
      replace hok := Lib.hid hok
      cases hh : hasI (l.take k) x.id
      case true =>
        replace hh := Lib.hid hh
        go_wp2_with fail
        obtain ⟨W1, hW1⟩ : ∃ W1, W1 = wr.alloc (.cells #[.int .i64 x.id, .int .i64 x.due] 75) := ⟨_, rfl⟩
        have BW1 : Below w.heap.size w W1 := by rw [hW1]; exact hb.alloc hb.size _
        have x0_W1 : W1.cell? ⟨b, o + k * 2, none⟩ = some (.int .i64 x.id) := by rw [hW1, World.cell?_alloc_lt _ _ _ (show b < wr.heap.size from hb2)]; exact x0
        have x1_W1 : W1.cell? ⟨b, o + k * 2 + 1, none⟩ = some (.int .i64 x.due) := by rw [hW1, World.cell?_alloc_lt _ _ _ (show b < wr.heap.size from hb2)]; exact x1
        clear x0 x1
        have hzW1 : W1.heap.size = wr.heap.size + 1 := by rw [hW1]; simp
        have zW1_7 : b < W1.heap.size := by rw [hzW1]; have := hb2; omega
        clear hb2
        have z0_W1 : W1.cell? ⟨wr.heap.size, 0, none⟩ = some (.int .i64 x.id) := by rw [hW1]; go_simp
        have z1_W1 : W1.cell? ⟨wr.heap.size, 1, none⟩ = some (.int .i64 x.due) := by rw [hW1]; go_simp
        have hSk_W1 := Lib.hid (hSk.out.below (show Below wr.heap.size wr W1 by rw [hW1]; exact (Below.refl _ _).alloc (Nat.le_refl _) _))
        clear hSk
        have znW1 : wr.heap.size < W1.heap.size := by rw [hzW1]; omega
        rw [← hW1]
        clear hW1 hzW1 hb
        generalize wr.heap.size = nW1 at *
        go_wp2_with fail
        have K_x0 := cell_regrown x0_W1
        have K_x1 := cell_regrown x1_W1
        have K_z0 := cell_regrown z0_W1
        have K_z1 := cell_regrown z1_W1
        clear x0_W1 x1_W1 z0_W1 z1_W1
        have cC0 := fun (d : Nat) (os : Array Obj) => Calls.regrown_of (isRight_is x.id x.due _ hok.out (Go.Sort.grow (redrawn W1 d) os))
        have cC1 := fun (d : Nat) (os : Array Obj) => Calls.regrown_of (has_is (some ⟨b, o, none⟩) cap k (l.take k) x.id _ (Go.Sort.grow (redrawn W1 d) os) hnk.out hnl.out (SlT.below hSk_W1.out (below_regrown W1 d os)) hh.out)
        refine wp_region_quiet_below (by kernel_rfl) (by kernel_rfl) ?_
        repeat (first | go_big_quiet_step (first | exact cC0 _ _ | exact cC1 _ _) | quiet_step (first | exact cC0 _ _ | exact cC1 _ _))
        refine wpQuiet_nil ?_
        intro _ hw'
        obtain ⟨⟨dq, osq⟩, hw''⟩ := hw'
        subst hw''
        have hbW2 := below_regrown W1 dq osq
        have x0_W2 := K_x0 dq osq
        have x1_W2 := K_x1 dq osq
        have z0_W2 := K_z0 dq osq
        have z1_W2 := K_z1 dq osq
        clear K_x0 K_x1 K_z0 K_z1 cC0 cC1 
        have zW2_37 : b < (Go.Sort.grow (redrawn W1 dq) osq).heap.size := Nat.lt_of_lt_of_le zW1_7 hbW2.size
        clear zW1_7
        have zW2_39 : nW1 < (Go.Sort.grow (redrawn W1 dq) osq).heap.size := Nat.lt_of_lt_of_le znW1 hbW2.size
        clear znW1
        have hSk_W2 := Lib.hid (hSk_W1.out.below hbW2)
        clear hSk_W1
        have BW2 : Below w.heap.size w (Go.Sort.grow (redrawn W1 dq) osq) := BW1.trans (hbW2.mono BW1.size)
        clear hbW2 BW1
        generalize Go.Sort.grow (redrawn W1 dq) osq = W2 at *
        go_wp2_with fail
        go_ret
        exact ⟨by rw [right_not hx.out (bad_has hh.out)]; rfl, BW2⟩
      case false =>
        replace hh := Lib.hid hh
        match k, hk with
        | 0, _ =>
          rw [Nat.zero_mul, Nat.add_zero] at x0 x1
          go_wp2_with fail
          obtain ⟨W1, hW1⟩ : ∃ W1, W1 = wr.alloc (.cells #[.int .i64 x.id, .int .i64 x.due] 75) := ⟨_, rfl⟩
          have BW1 : Below w.heap.size w W1 := by rw [hW1]; exact hb.alloc hb.size _
          have x0_W1 : W1.cell? ⟨b, o, none⟩ = some (.int .i64 x.id) := by rw [hW1, World.cell?_alloc_lt _ _ _ (show b < wr.heap.size from hb2)]; exact x0
          have x1_W1 : W1.cell? ⟨b, o + 1, none⟩ = some (.int .i64 x.due) := by rw [hW1, World.cell?_alloc_lt _ _ _ (show b < wr.heap.size from hb2)]; exact x1
          clear x0 x1
          have hzW1 : W1.heap.size = wr.heap.size + 1 := by rw [hW1]; simp
          have zW1_7 : b < W1.heap.size := by rw [hzW1]; have := hb2; omega
          clear hb2
          have z0_W1 : W1.cell? ⟨wr.heap.size, 0, none⟩ = some (.int .i64 x.id) := by rw [hW1]; go_simp
          have z1_W1 : W1.cell? ⟨wr.heap.size, 1, none⟩ = some (.int .i64 x.due) := by rw [hW1]; go_simp
          have hSk_W1 := Lib.hid (hSk.out.below (show Below wr.heap.size wr W1 by rw [hW1]; exact (Below.refl _ _).alloc (Nat.le_refl _) _))
          clear hSk
          have znW1 : wr.heap.size < W1.heap.size := by rw [hzW1]; omega
          rw [← hW1]
          clear hW1 hzW1 hb
          generalize wr.heap.size = nW1 at *
          go_wp2_with fail
          have K_x0 := cell_regrown x0_W1
          have K_x1 := cell_regrown x1_W1
          have K_z0 := cell_regrown z0_W1
          have K_z1 := cell_regrown z1_W1
          clear x0_W1 x1_W1 z0_W1 z1_W1
          have cC0 := fun (d : Nat) (os : Array Obj) => Calls.regrown_of (isRight_is x.id x.due _ hok.out (Go.Sort.grow (redrawn W1 d) os))
          have cC1 := fun (d : Nat) (os : Array Obj) => Calls.regrown_of (has_is (some ⟨b, o, none⟩) cap 0 (l.take 0) x.id _ (Go.Sort.grow (redrawn W1 d) os) hnk.out hnl.out (SlT.below hSk_W1.out (below_regrown W1 d os)) hh.out)
          refine wp_region_quiet_below (by kernel_rfl) (by kernel_rfl) ?_
          repeat (first | go_big_quiet_step (first | exact cC0 _ _ | exact cC1 _ _) | quiet_step (first | exact cC0 _ _ | exact cC1 _ _))
          refine wpQuiet_nil ?_
          intro _ hw'
          obtain ⟨⟨dq, osq⟩, hw''⟩ := hw'
          subst hw''
          have hbW2 := below_regrown W1 dq osq
          have x0_W2 := K_x0 dq osq
          have x1_W2 := K_x1 dq osq
          have z0_W2 := K_z0 dq osq
          have z1_W2 := K_z1 dq osq
          clear K_x0 K_x1 K_z0 K_z1 cC0 cC1 
          have zW2_37 : b < (Go.Sort.grow (redrawn W1 dq) osq).heap.size := Nat.lt_of_lt_of_le zW1_7 hbW2.size
          clear zW1_7
          have zW2_39 : nW1 < (Go.Sort.grow (redrawn W1 dq) osq).heap.size := Nat.lt_of_lt_of_le znW1 hbW2.size
          clear znW1
          have hSk_W2 := Lib.hid (hSk_W1.out.below hbW2)
          clear hSk_W1
          have BW2 : Below w.heap.size w (Go.Sort.grow (redrawn W1 dq) osq) := BW1.trans (hbW2.mono BW1.size)
          clear hbW2 BW1
          generalize Go.Sort.grow (redrawn W1 dq) osq = W2 at *
          go_wp2_with fail
          go_roundw
          case rel => exact ⟨0 + 1, by omega, by go_num, right_more hrk.out hx.out (good_zero hok.out hh.out), BW2⟩
          case measure => simp [intOf]; omega
        | j + 1, _ =>
          obtain ⟨y, hy⟩ : ∃ y, l[j]? = some y := ⟨_, List.getElem?_eq_getElem (by omega)⟩
          obtain ⟨b', o', e, _, y0, y1⟩ := SlT.at_ H.out hy
          obtain ⟨rfl, rfl⟩ : b = b' ∧ o = o' := by simpa using e
          clear e
          replace y0 := (hb.cell (p := ⟨b, _, none⟩) (by assumption)).trans y0
          replace y1 := (hb.cell (p := ⟨b, _, none⟩) (by assumption)).trans y1
          replace hy := Lib.hid hy
          have hwr : IntKind.i64.wrap ((j : Int) + 1 - 1) = (j : Int) := IntWalk.i64_in _ (by omega) |>.trans (by omega)
          have hjl : (j : Int) < (l.length : Int) := by omega
          have hj0 : (0 : Int) ≤ (j : Int) := by omega
          by_cases hc : 0 < cmpT y x
          · obtain ⟨c, hc'⟩ : ∃ c, cmpT y x = c := ⟨_, rfl⟩
            have hcp : (0 : Int) < c := by rw [← hc']; exact hc
            replace hc := Lib.hid hc
            replace hc' := Lib.hid hc'
            go_wp2_with fail
            obtain ⟨W1, hW1⟩ : ∃ W1, W1 = wr.alloc (.cells #[.int .i64 x.id, .int .i64 x.due] 75) := ⟨_, rfl⟩
            have BW1 : Below w.heap.size w W1 := by rw [hW1]; exact hb.alloc hb.size _
            have x0_W1 : W1.cell? ⟨b, o + (j + 1) * 2, none⟩ = some (.int .i64 x.id) := by rw [hW1, World.cell?_alloc_lt _ _ _ (show b < wr.heap.size from hb2)]; exact x0
            have x1_W1 : W1.cell? ⟨b, o + (j + 1) * 2 + 1, none⟩ = some (.int .i64 x.due) := by rw [hW1, World.cell?_alloc_lt _ _ _ (show b < wr.heap.size from hb2)]; exact x1
            have y0_W1 : W1.cell? ⟨b, o + j * 2, none⟩ = some (.int .i64 y.id) := by rw [hW1, World.cell?_alloc_lt _ _ _ (show b < wr.heap.size from hb2)]; exact y0
            have y1_W1 : W1.cell? ⟨b, o + j * 2 + 1, none⟩ = some (.int .i64 y.due) := by rw [hW1, World.cell?_alloc_lt _ _ _ (show b < wr.heap.size from hb2)]; exact y1
            clear x0 x1 y0 y1
            have hzW1 : W1.heap.size = wr.heap.size + 1 := by rw [hW1]; simp
            have zW1_9 : b < W1.heap.size := by rw [hzW1]; have := hb2; omega
            clear hb2
            have z0_W1 : W1.cell? ⟨wr.heap.size, 0, none⟩ = some (.int .i64 x.id) := by rw [hW1]; go_simp
            have z1_W1 : W1.cell? ⟨wr.heap.size, 1, none⟩ = some (.int .i64 x.due) := by rw [hW1]; go_simp
            have hSk_W1 := Lib.hid (hSk.out.below (show Below wr.heap.size wr W1 by rw [hW1]; exact (Below.refl _ _).alloc (Nat.le_refl _) _))
            clear hSk
            have znW1 : wr.heap.size < W1.heap.size := by rw [hzW1]; omega
            rw [← hW1]
            clear hW1 hzW1 hb
            generalize wr.heap.size = nW1 at *
            go_wp2_with fail
            have K_x0 := cell_regrown x0_W1
            have K_x1 := cell_regrown x1_W1
            have K_y0 := cell_regrown y0_W1
            have K_y1 := cell_regrown y1_W1
            have K_z0 := cell_regrown z0_W1
            have K_z1 := cell_regrown z1_W1
            clear x0_W1 x1_W1 y0_W1 y1_W1 z0_W1 z1_W1
            have cC0 := fun (d : Nat) (os : Array Obj) => Calls.regrown_of (isRight_is x.id x.due _ hok.out (Go.Sort.grow (redrawn W1 d) os))
            have cC1 := fun (d : Nat) (os : Array Obj) => Calls.regrown_of (has_is (some ⟨b, o, none⟩) cap (j + 1) (l.take (j + 1)) x.id _ (Go.Sort.grow (redrawn W1 d) os) hnk.out hnl.out (SlT.below hSk_W1.out (below_regrown W1 d os)) hh.out)
            have cC2 := fun (d : Nat) (os : Array Obj) => Calls.regrown_of (compare_is y x _ hc'.out (Go.Sort.grow (redrawn W1 d) os))
            refine wp_region_quiet_below (by kernel_rfl) (by kernel_rfl) ?_
            repeat (first | go_big_quiet_step (first | exact cC0 _ _ | exact cC1 _ _ | exact cC2 _ _) | quiet_step (first | exact cC0 _ _ | exact cC1 _ _ | exact cC2 _ _))
            refine wpQuiet_nil ?_
            intro _ hw'
            obtain ⟨⟨dq, osq⟩, hw''⟩ := hw'
            subst hw''
            have hbW2 := below_regrown W1 dq osq
            have x0_W2 := K_x0 dq osq
            have x1_W2 := K_x1 dq osq
            have y0_W2 := K_y0 dq osq
            have y1_W2 := K_y1 dq osq
            have z0_W2 := K_z0 dq osq
            have z1_W2 := K_z1 dq osq
            clear K_x0 K_x1 K_y0 K_y1 K_z0 K_z1 cC0 cC1 cC2 
            have zW2_44 : b < (Go.Sort.grow (redrawn W1 dq) osq).heap.size := Nat.lt_of_lt_of_le zW1_9 hbW2.size
            clear zW1_9
            have zW2_46 : nW1 < (Go.Sort.grow (redrawn W1 dq) osq).heap.size := Nat.lt_of_lt_of_le znW1 hbW2.size
            clear znW1
            have hSk_W2 := Lib.hid (hSk_W1.out.below hbW2)
            clear hSk_W1
            have BW2 : Below w.heap.size w (Go.Sort.grow (redrawn W1 dq) osq) := BW1.trans (hbW2.mono BW1.size)
            clear hbW2 BW1
            generalize Go.Sort.grow (redrawn W1 dq) osq = W2 at *
            go_wp2_with fail
            go_ret
            exact ⟨by rw [right_not hx.out (bad_cmp hy.out hc.out)]; rfl, BW2⟩
          · obtain ⟨c, hc'⟩ : ∃ c, cmpT y x = c := ⟨_, rfl⟩
            have hcp : c ≤ 0 := by rw [← hc']; omega
            replace hc := Lib.hid hc
            replace hc' := Lib.hid hc'
            go_wp2_with fail
            obtain ⟨W1, hW1⟩ : ∃ W1, W1 = wr.alloc (.cells #[.int .i64 x.id, .int .i64 x.due] 75) := ⟨_, rfl⟩
            have BW1 : Below w.heap.size w W1 := by rw [hW1]; exact hb.alloc hb.size _
            have x0_W1 : W1.cell? ⟨b, o + (j + 1) * 2, none⟩ = some (.int .i64 x.id) := by rw [hW1, World.cell?_alloc_lt _ _ _ (show b < wr.heap.size from hb2)]; exact x0
            have x1_W1 : W1.cell? ⟨b, o + (j + 1) * 2 + 1, none⟩ = some (.int .i64 x.due) := by rw [hW1, World.cell?_alloc_lt _ _ _ (show b < wr.heap.size from hb2)]; exact x1
            have y0_W1 : W1.cell? ⟨b, o + j * 2, none⟩ = some (.int .i64 y.id) := by rw [hW1, World.cell?_alloc_lt _ _ _ (show b < wr.heap.size from hb2)]; exact y0
            have y1_W1 : W1.cell? ⟨b, o + j * 2 + 1, none⟩ = some (.int .i64 y.due) := by rw [hW1, World.cell?_alloc_lt _ _ _ (show b < wr.heap.size from hb2)]; exact y1
            clear x0 x1 y0 y1
            have hzW1 : W1.heap.size = wr.heap.size + 1 := by rw [hW1]; simp
            have zW1_9 : b < W1.heap.size := by rw [hzW1]; have := hb2; omega
            clear hb2
            have z0_W1 : W1.cell? ⟨wr.heap.size, 0, none⟩ = some (.int .i64 x.id) := by rw [hW1]; go_simp
            have z1_W1 : W1.cell? ⟨wr.heap.size, 1, none⟩ = some (.int .i64 x.due) := by rw [hW1]; go_simp
            have hSk_W1 := Lib.hid (hSk.out.below (show Below wr.heap.size wr W1 by rw [hW1]; exact (Below.refl _ _).alloc (Nat.le_refl _) _))
            clear hSk
            have znW1 : wr.heap.size < W1.heap.size := by rw [hzW1]; omega
            rw [← hW1]
            clear hW1 hzW1 hb
            generalize wr.heap.size = nW1 at *
            go_wp2_with fail
            have K_x0 := cell_regrown x0_W1
            have K_x1 := cell_regrown x1_W1
            have K_y0 := cell_regrown y0_W1
            have K_y1 := cell_regrown y1_W1
            have K_z0 := cell_regrown z0_W1
            have K_z1 := cell_regrown z1_W1
            clear x0_W1 x1_W1 y0_W1 y1_W1 z0_W1 z1_W1
            have cC0 := fun (d : Nat) (os : Array Obj) => Calls.regrown_of (isRight_is x.id x.due _ hok.out (Go.Sort.grow (redrawn W1 d) os))
            have cC1 := fun (d : Nat) (os : Array Obj) => Calls.regrown_of (has_is (some ⟨b, o, none⟩) cap (j + 1) (l.take (j + 1)) x.id _ (Go.Sort.grow (redrawn W1 d) os) hnk.out hnl.out (SlT.below hSk_W1.out (below_regrown W1 d os)) hh.out)
            have cC2 := fun (d : Nat) (os : Array Obj) => Calls.regrown_of (compare_is y x _ hc'.out (Go.Sort.grow (redrawn W1 d) os))
            refine wp_region_quiet_below (by kernel_rfl) (by kernel_rfl) ?_
            repeat (first | go_big_quiet_step (first | exact cC0 _ _ | exact cC1 _ _ | exact cC2 _ _) | quiet_step (first | exact cC0 _ _ | exact cC1 _ _ | exact cC2 _ _))
            refine wpQuiet_nil ?_
            intro _ hw'
            obtain ⟨⟨dq, osq⟩, hw''⟩ := hw'
            subst hw''
            have hbW2 := below_regrown W1 dq osq
            have x0_W2 := K_x0 dq osq
            have x1_W2 := K_x1 dq osq
            have y0_W2 := K_y0 dq osq
            have y1_W2 := K_y1 dq osq
            have z0_W2 := K_z0 dq osq
            have z1_W2 := K_z1 dq osq
            clear K_x0 K_x1 K_y0 K_y1 K_z0 K_z1 cC0 cC1 cC2 
            have zW2_44 : b < (Go.Sort.grow (redrawn W1 dq) osq).heap.size := Nat.lt_of_lt_of_le zW1_9 hbW2.size
            clear zW1_9
            have zW2_46 : nW1 < (Go.Sort.grow (redrawn W1 dq) osq).heap.size := Nat.lt_of_lt_of_le znW1 hbW2.size
            clear znW1
            have hSk_W2 := Lib.hid (hSk_W1.out.below hbW2)
            clear hSk_W1
            have BW2 : Below w.heap.size w (Go.Sort.grow (redrawn W1 dq) osq) := BW1.trans (hbW2.mono BW1.size)
            clear hbW2 BW1
            generalize Go.Sort.grow (redrawn W1 dq) osq = W2 at *
            go_wp2_with fail
            go_roundw
            case rel => exact ⟨j + 1 + 1, by omega, by go_num, right_more hrk.out hx.out (good_cmp hok.out hh.out hy.out (Int.not_lt.2 hc.out)), BW2⟩
            case measure => simp [intOf]; omega

end Go.Proofs.Ytnghilcjecjljaa.WheelP
