/-
  The closures that fdb hands to without; fdb.Sweep, Flush, Unpin.
-/
import Derived.Test.YtnghilcjecjljaaFdbL
namespace Go.Proofs.Ytnghilcjecjljaa.FdbP
open Go.RowKit Go.Sort Go.Proofs.Ytnghilcjecjljaa.SliceP Go.Proofs.Ytnghilcjecjljaa.MacP
set_option linter.unusedVariables false
set_option maxRecDepth 100000

def isE (y : E) (x : E) : Bool := decide (x = y)
set_option maxHeartbeats 1000000 in
theorem put1_any (y x : E) (c : Nat) (W : World) (hc : Bx W c 57 #[.int .i64 y.mac, .int .i64 y.port, .int .i64 y.seen, .bool y.st]) :
    Calls Try.prog 64 #[x.val, .pointer (some ⟨c, 0, none⟩)] W fun e W' => e = .returned (.bool (isE y x)) ∧ Below W.heap.size W W' := by
  have hE := fun w => eql_ent x y w
  have B0 : Below W.heap.size W (W.alloc (eObj x.mac x.port x.seen x.st)) := (Below.refl _ _).alloc (Nat.le_refl _) _
  have hlt := hc.lt
  have c0 := hc.c (i := 0) rfl
  have c1 := hc.c (i := 1) rfl
  have c2 := hc.c (i := 2) rfl
  have c3 := hc.c (i := 3) rfl
  unfold isE
  generalize decide (x = y) = r at *
  clear hc
  go_enter Try.func64, Try.ntmps64
  go_wp2
  go_ret
  exact ⟨rfl, B0⟩
theorem put1_enters : Enters 64 := enters_of Try.func64 (by kernel_rfl) rfl
theorem put1_pred (y : E) (c n : Nat) (w : World) (hc : Bx w c 57 #[.int .i64 y.mac, .int .i64 y.port, .int .i64 y.seen, .bool y.st]) (hn : c < n) : PredB 64 #[.pointer (some ⟨c, 0, none⟩)] (isE y) n w := fun W hW x =>
  put1_any y x c W ((hW.block c hn).trans hc)
set_option maxHeartbeats 1000000 in
theorem unpin1_any (y x : E) (c : Nat) (W : World) (hc : Bx W c 57 #[.int .i64 y.mac, .int .i64 y.port, .int .i64 y.seen, .bool y.st]) :
    Calls Try.prog 52 #[x.val, .pointer (some ⟨c, 0, none⟩)] W fun e W' => e = .returned (.bool (isE y x)) ∧ Below W.heap.size W W' := by
  have hE := fun w => eql_ent x y w
  have B0 : Below W.heap.size W (W.alloc (eObj x.mac x.port x.seen x.st)) := (Below.refl _ _).alloc (Nat.le_refl _) _
  have hlt := hc.lt
  have c0 := hc.c (i := 0) rfl
  have c1 := hc.c (i := 1) rfl
  have c2 := hc.c (i := 2) rfl
  have c3 := hc.c (i := 3) rfl
  unfold isE
  generalize decide (x = y) = r at *
  clear hc
  go_enter Try.func52, Try.ntmps52
  go_wp2
  go_ret
  exact ⟨rfl, B0⟩
theorem unpin1_enters : Enters 52 := enters_of Try.func52 (by kernel_rfl) rfl
theorem unpin1_pred (y : E) (c n : Nat) (w : World) (hc : Bx w c 57 #[.int .i64 y.mac, .int .i64 y.port, .int .i64 y.seen, .bool y.st]) (hn : c < n) : PredB 52 #[.pointer (some ⟨c, 0, none⟩)] (isE y) n w := fun W hW x =>
  unpin1_any y x c W ((hW.block c hn).trans hc)

/-- Old, of whatever numbers. -/
def oldW (age now : Int) (x : E) : Bool := !x.st && decide (age < IntKind.i64.wrap (now - x.seen))
set_option maxHeartbeats 1000000 in
theorem isOldW_any (x : E) (age now : Int) (w : World) :
    Calls Try.prog 39 #[x.val, .int .i64 age, .int .i64 now] w fun e w' => e = .returned (.bool (oldW age now x)) ∧ Below w.heap.size w w' := by
  unfold oldW
  obtain ⟨d, hd⟩ : ∃ d, IntKind.i64.wrap (now - x.seen) = d := ⟨_, rfl⟩
  rw [hd]
  obtain ⟨m, p, s, b⟩ := x
  simp only at hd ⊢
  have B0 : Below w.heap.size w (w.alloc (eObj m p s b)) := (Below.refl _ _).alloc (Nat.le_refl _) _
  cases b <;> cases h : decide (age < d)
  all_goals
    go_enter Try.func39, Try.ntmps39
    go_wp2
    go_ret
    exact ⟨rfl, B0⟩
theorem oldW_eq {age now : Int} {x : E} (hs : 0 ≤ x.seen ∧ x.seen ≤ 1099511627776) (hn : 0 ≤ now ∧ now ≤ 1099511627776) : oldW age now x = oldI x.st x.seen age now := by
  unfold oldW oldI
  rw [IntWalk.i64_in (now - x.seen) (by omega)]
set_option maxHeartbeats 1000000 in
theorem sweep1_any (x : E) (v : Value) (s ag now : Int) (c d : Nat) (W : World) (hc : Bx W c 24 #[v, .int .i64 s, .int .i64 ag]) (hd : Bx W d 3 #[.int .i64 now]) :
    Calls Try.prog 53 #[x.val, .pointer (some ⟨c, 0, none⟩), .pointer (some ⟨d, 0, none⟩)] W fun e W' => e = .returned (.bool (oldW ag now x)) ∧ Below W.heap.size W W' := by
  obtain ⟨w0, hw0⟩ : ∃ w0, w0 = W.alloc (eObj x.mac x.port x.seen x.st) := ⟨_, rfl⟩
  have B0 : Below W.heap.size W w0 := by rw [hw0]; exact (Below.refl _ _).alloc (Nat.le_refl _) _
  have hlt := hc.lt
  have hlt2 := hd.lt
  have c2 := hc.c (i := 2) rfl
  have d0 := hd.c (i := 0) rfl
  clear hc hd
  go_enter Try.func53, Try.ntmps53
  go_wp2_with fail
  rw [← hw0]
  clear hw0
  go_at_call 39
  (with_reducible refine (isOldW_any x ag now _).mono ?_)
  rintro e w1 ⟨rfl, hb1⟩
  have B1 := Lib.hid (bt B0 hb1)
  clear hb1 c2 d0
  go_wp2_with fail
  go_ret
  exact ⟨rfl, B1.out⟩
theorem sweep1_enters : Enters 53 := enters_of Try.func53 (by kernel_rfl) rfl
def flushP (port : Int) (x : E) : Bool := !x.st && (port == -1 || port == x.port)
set_option maxHeartbeats 1000000 in
theorem flush1_any (x : E) (port : Int) (c : Nat) (W : World) (hc : Bx W c 3 #[.int .i64 port]) :
    Calls Try.prog 54 #[x.val, .pointer (some ⟨c, 0, none⟩)] W fun e W' => e = .returned (.bool (flushP port x)) ∧ Below W.heap.size W W' := by
  obtain ⟨m, p, s, b⟩ := x
  unfold flushP
  simp only
  have B0 : Below W.heap.size W (W.alloc (eObj m p s b)) := (Below.refl _ _).alloc (Nat.le_refl _) _
  have hlt := hc.lt
  have c0 := hc.c (i := 0) rfl
  clear hc
  cases b <;> cases h1 : (port == -1) <;> cases h2 : (port == p)
  all_goals
    go_enter Try.func54, Try.ntmps54
    go_wp2
    go_ret
    exact ⟨rfl, B0⟩
theorem flush1_enters : Enters 54 := enters_of Try.func54 (by kernel_rfl) rfl

theorem keepL_congr {p q : E → Bool} {l : List E} (h : ∀ x ∈ l, p x = q x) : keepL p l = keepL q l := by
  unfold keepL
  exact List.filter_congr fun x hx => by rw [h x hx]
def sweepT (bs : List (List E)) (ag now : Int) : List (List E) := bs.map (keepL fun x => oldI x.st x.seen ag now)
theorem sweepT_eq {bs : List (List E)} {s ag now : Int} (h : rightT bs s ag = true) (hn : timeB now = true) : bs.map (keepL (oldW ag now)) = sweepT bs ag now := by
  unfold sweepT
  apply List.map_congr_left
  intro l hl
  obtain ⟨k, hk⟩ := List.mem_iff_getElem?.1 hl
  apply keepL_congr
  intro x hx
  obtain ⟨i, hi⟩ := List.mem_iff_getElem?.1 hx
  exact oldW_eq (rightE_time ((right_at h hk).2 i x hi).2.1) (timeB_iff.1 hn)
theorem TabS.of_wo {w w' : World} {s ag : Int} {bs : List (List E)} {g : Nat} {ps : List PB} (h : OT w' w.heap.size g ps []) (hr : ps.map PB.row = bs) : TabS w' (some ⟨g, 0, none⟩) bs.length bs.length bs := h.tab hr rfl
set_option maxHeartbeats 4000000 in
theorem fdSweep {A : Option Addr} {n c : Nat} {bs : List (List E)} (s ag now : Int) {w : World} (ht : TabS w A n c bs) (hs : Small bs) (r : Bool) (hr : (rightT bs s ag && timeB now) = r) :
    Calls Try.prog 25 #[tbv (.slice A n c) s ag, .int .i64 now] w (RetTab w (if r then sweepT bs ag now else []) (if r then s else 0) (if r then ag else 0) (if r then 0 else 1)) := by
  obtain ⟨w0, hw0⟩ : ∃ w0, w0 = ((w.alloc (tObj (.slice A n c) s ag)).alloc (.cells #[.int .i64 now] 3)).alloc (tObj (.slice none 0 0) 0 0) := ⟨_, rfl⟩
  have B0 : Below w.heap.size w w0 := by rw [hw0]; exact (((Below.refl _ _).alloc (Nat.le_refl _) _).alloc (by simp) _).alloc (by simp; omega) _
  have Y : Bx w0 w.heap.size 24 #[.slice A n c, .int .i64 s, .int .i64 ag] := by rw [hw0]; exact ((Bx.new w _ _ rfl).alloc _).alloc _
  have Z : Bx w0 (w.heap.size + 1) 3 #[.int .i64 now] := by rw [hw0]; exact (Bx.new _ _ _ (by simp)).alloc _
  have X : Bx w0 (w.heap.size + 2) 24 #[.slice none 0 0, .int .i64 0, .int .i64 0] := by rw [hw0]; exact Bx.new _ _ _ (by simp)
  have hz0 : w.heap.size + 2 < w0.heap.size := X.lt
  have hR := Lib.hid (fdRight s ag (ht.below B0) hs _ rfl)
  have ht0 := Lib.hid (ht.below B0)
  replace Y := Lib.hid Y
  replace Z := Lib.hid Z
  replace X := Lib.hid X
  clear ht
  cases h1 : rightT bs s ag with
  | false =>
    obtain rfl : r = false := by rw [← hr, h1, Bool.false_and]
    rw [h1] at hR
    clear hr h1
    go_enter Try.func25, Try.ntmps25
    go_wp2_with fail
    rw [← hw0]
    clear hw0
    go_at_call 12
    (with_reducible refine hR.out.mono ?_)
    rintro e w1 ⟨rfl, hb1⟩
    have B1 := Lib.hid (bt B0 hb1)
    have X1 := Lib.hid (X.out.below hb1)
    have Y1 := Lib.hid (Y.out.below hb1)
    have Z1 := Lib.hid (Z.out.below hb1)
    have hz1 := Nat.lt_of_lt_of_le hz0 hb1.size
    have z0 := Z1.out.c (i := 0) rfl
    clear hb1 z0
    have x0 := X1.out.c (i := 0) rfl
    have x1 := X1.out.c (i := 1) rfl
    have x2 := X1.out.c (i := 2) rfl
    have f0 := X1.out.f 0
    have f1 := X1.out.f 1
    have f2 := X1.out.f 2
    go_wp2_with fail
    refine bodyPost_ret (v := .tuple #[tbv (.slice none 0 0) 0 0, .int .i64 1]) (by simp [results, Try.results25, go_sem, x0, x1, x2]) rfl ⟨none, 0, 0, rfl, fun _ _ => TabS.empty _, ?_⟩
    repeat (first | with_reducible exact B1.out | refine Below.setCell ?_ (by first | omega | (simp; done) | (simp; omega)) _)
  | true =>
    rw [h1] at hR
    cases h2 : timeB now with
    | false =>
      obtain rfl : r = false := by rw [← hr, h1, h2, Bool.and_false]
      replace h2 := Lib.hid h2
      clear hr h1
      go_enter Try.func25, Try.ntmps25
      go_wp2_with fail
      rw [← hw0]
      clear hw0
      go_at_call 12
      (with_reducible refine hR.out.mono ?_)
      rintro e w1 ⟨rfl, hb1⟩
      have B1 := Lib.hid (bt B0 hb1)
      have X1 := Lib.hid (X.out.below hb1)
      have Y1 := Lib.hid (Y.out.below hb1)
      have Z1 := Lib.hid (Z.out.below hb1)
      have hz1 := Nat.lt_of_lt_of_le hz0 hb1.size
      have z0 := Z1.out.c (i := 0) rfl
      go_wp2_with fail
      go_at_call 35
      (with_reducible refine (time_is now _ _ h2.out).mono ?_)
      rintro e w2 ⟨rfl, hb2⟩
      have B2 := Lib.hid (bt B1.out hb2)
      have X2 := Lib.hid (X1.out.below hb2)
      clear hb1 hb2 z0
      have x0 := X2.out.c (i := 0) rfl
      have x1 := X2.out.c (i := 1) rfl
      have x2 := X2.out.c (i := 2) rfl
      have f0 := X2.out.f 0
      have f1 := X2.out.f 1
      have f2 := X2.out.f 2
      go_wp2_with fail
      refine bodyPost_ret (v := .tuple #[tbv (.slice none 0 0) 0 0, .int .i64 1]) (by simp [results, Try.results25, go_sem, x0, x1, x2]) rfl ⟨none, 0, 0, rfl, fun _ _ => TabS.empty _, ?_⟩
      repeat (first | with_reducible exact B2.out | refine Below.setCell ?_ (by first | omega | (simp; done) | (simp; omega)) _)
    | true =>
      obtain rfl : r = true := by rw [← hr, h1, h2, Bool.and_true]
      have hsw := Lib.hid (sweepT_eq h1 h2)
      replace h2 := Lib.hid h2
      replace h1 := Lib.hid h1
      clear hr
      go_enter Try.func25, Try.ntmps25
      go_wp2_with fail
      rw [← hw0]
      clear hw0
      go_at_call 12
      (with_reducible refine hR.out.mono ?_)
      rintro e w1 ⟨rfl, hb1⟩
      have B1 := Lib.hid (bt B0 hb1)
      have X1 := Lib.hid (X.out.below hb1)
      have Y1 := Lib.hid (Y.out.below hb1)
      have Z1 := Lib.hid (Z.out.below hb1)
      have hz1 := Nat.lt_of_lt_of_le hz0 hb1.size
      have z0 := Z1.out.c (i := 0) rfl
      have T1 := Lib.hid (ht0.out.below hb1)
      go_wp2_with fail
      go_at_call 35
      (with_reducible refine (time_is now _ _ h2.out).mono ?_)
      rintro e w2 ⟨rfl, hb2⟩
      have B2 := Lib.hid (bt B1.out hb2)
      have X2 := Lib.hid (X1.out.below hb2)
      have Y2 := Y1.out.below hb2
      have Z2 := Z1.out.below hb2
      have hz2 := Nat.lt_of_lt_of_le hz1 hb2.size
      have y0 := Y2.c (i := 0) rfl
      have y1 := Y2.c (i := 1) rfl
      have y2 := Y2.c (i := 2) rfl
      have hP : PredB 53 #[.pointer (some ⟨w.heap.size, 0, none⟩), .pointer (some ⟨w.heap.size + 1, 0, none⟩)] (oldW ag now) w2.heap.size w2 := fun W hW x =>
        sweep1_any x _ s ag now _ _ W ((hW.block _ Y2.lt).trans Y2) ((hW.block _ Z2.lt).trans Z2)
      have hW := Lib.hid (fdWithout _ _ sweep1_enters (oldW ag now) s ag (T1.out.below hb2) hs.1 hs.2 hP)
      clear hb1 hb2 z0 Y2 Z2 hP
      go_wp2_with fail
      go_at_call 51
      (with_reducible refine hW.out.mono ?_)
      rintro e w9 ⟨g, ps, rfl, hot, hrow, hb9⟩
      have B9 := Lib.hid (bt B2.out hb9)
      have X9 := X2.out.below hb9
      have hz9 := hz2
      have x0 := X9.c (i := 0) rfl
      have x1 := X9.c (i := 1) rfl
      have x2 := X9.c (i := 2) rfl
      have f0 := X9.f 0
      have f1 := X9.f 1
      have f2 := X9.f 2
      have hlen9 : ps.length = bs.length := by have := congrArg List.length hrow; simpa using this
      have hw9 : 0 ≤ w9.heap.size := Nat.zero_le _
      have hfin : OT (((w9.setCell ⟨w.heap.size + 2, 0, none⟩ (.slice (some ⟨g, 0, none⟩) (bs.map (keepL (oldW ag now))).length (bs.map (keepL (oldW ag now))).length)).setCell ⟨w.heap.size + 2, 1, none⟩ (.int .i64 s)).setCell ⟨w.heap.size + 2, 2, none⟩ (.int .i64 ag)) w2.heap.size g ps [] := ((hot.setLow hz9 _ _).setLow hz9 _ _).setLow hz9 _ _
      have hfin := Lib.hid (hfin.tabH (B' := w.heap.size) (by omega) hrow rfl)
      rw [List.length_map] at hfin
      clear hot X9 hb9 hW hlen9
      replace hrow := Lib.hid hrow
      go_wp2_with fail
      refine bodyPost_ret (v := .tuple #[tbv (.slice (some ⟨g, 0, none⟩) bs.length bs.length) s ag, .int .i64 0]) (by simp [results, Try.results25, go_sem, x0, x1, x2]) rfl ⟨_, _, _, rfl, ?_, ?_⟩
      · rw [← hsw.out]; exact hfin.out
      · repeat (first | with_reducible exact B9.out | refine Below.setCell ?_ (by first | omega | (simp; done) | (simp; omega)) _)
set_option maxHeartbeats 4000000 in
theorem fdFlush {A : Option Addr} {n c : Nat} {bs : List (List E)} (s ag port : Int) {w : World} (ht : TabS w A n c bs) (hs : Small bs) (r : Bool) (hr : (rightT bs s ag && (portB port || port == -1)) = r) :
    Calls Try.prog 26 #[tbv (.slice A n c) s ag, .int .i64 port] w (RetTab w (if r then bs.map (keepL (flushP port)) else []) (if r then s else 0) (if r then ag else 0) (if r then 0 else 1)) := by
  obtain ⟨w0, hw0⟩ : ∃ w0, w0 = ((w.alloc (tObj (.slice A n c) s ag)).alloc (.cells #[.int .i64 port] 3)).alloc (tObj (.slice none 0 0) 0 0) := ⟨_, rfl⟩
  have B0 : Below w.heap.size w w0 := by rw [hw0]; exact (((Below.refl _ _).alloc (Nat.le_refl _) _).alloc (by simp) _).alloc (by simp; omega) _
  have Y : Bx w0 w.heap.size 24 #[.slice A n c, .int .i64 s, .int .i64 ag] := by rw [hw0]; exact ((Bx.new w _ _ rfl).alloc _).alloc _
  have Z : Bx w0 (w.heap.size + 1) 3 #[.int .i64 port] := by rw [hw0]; exact (Bx.new _ _ _ (by simp)).alloc _
  have X : Bx w0 (w.heap.size + 2) 24 #[.slice none 0 0, .int .i64 0, .int .i64 0] := by rw [hw0]; exact Bx.new _ _ _ (by simp)
  have hz0 : w.heap.size + 2 < w0.heap.size := X.lt
  have hR := Lib.hid (fdRight s ag (ht.below B0) hs _ rfl)
  have ht0 := Lib.hid (ht.below B0)
  replace Y := Lib.hid Y
  replace Z := Lib.hid Z
  replace X := Lib.hid X
  clear ht
  cases h1 : rightT bs s ag with
  | false =>
    obtain rfl : r = false := by rw [← hr, h1, Bool.false_and]
    rw [h1] at hR
    clear hr h1
    go_enter Try.func26, Try.ntmps26
    go_wp2_with fail
    rw [← hw0]
    clear hw0
    go_at_call 12
    (with_reducible refine hR.out.mono ?_)
    rintro e w1 ⟨rfl, hb1⟩
    have B1 := Lib.hid (bt B0 hb1)
    have X1 := Lib.hid (X.out.below hb1)
    have Y1 := Lib.hid (Y.out.below hb1)
    have Z1 := Lib.hid (Z.out.below hb1)
    have hz1 := Nat.lt_of_lt_of_le hz0 hb1.size
    have z0 := Z1.out.c (i := 0) rfl
    clear hb1 z0
    have x0 := X1.out.c (i := 0) rfl
    have x1 := X1.out.c (i := 1) rfl
    have x2 := X1.out.c (i := 2) rfl
    have f0 := X1.out.f 0
    have f1 := X1.out.f 1
    have f2 := X1.out.f 2
    go_wp2_with fail
    refine bodyPost_ret (v := .tuple #[tbv (.slice none 0 0) 0 0, .int .i64 1]) (by simp [results, Try.results26, go_sem, x0, x1, x2]) rfl ⟨none, 0, 0, rfl, fun _ _ => TabS.empty _, ?_⟩
    repeat (first | with_reducible exact B1.out | refine Below.setCell ?_ (by first | omega | (simp; done) | (simp; omega)) _)
  | true =>
    rw [h1] at hR
    cases h2 : portB port with
    | false =>
      cases h3 : (port == -1) with
      | false =>
        obtain rfl : r = false := by rw [← hr, h1, h2, h3]; rfl
        have h3' : (port != -1) = true := by rw [bne, h3]; rfl
        replace h2 := Lib.hid h2
        clear hr h1
        go_enter Try.func26, Try.ntmps26
        go_wp2_with fail
        rw [← hw0]
        clear hw0
        go_at_call 12
        (with_reducible refine hR.out.mono ?_)
        rintro e w1 ⟨rfl, hb1⟩
        have B1 := Lib.hid (bt B0 hb1)
        have X1 := Lib.hid (X.out.below hb1)
        have Y1 := Lib.hid (Y.out.below hb1)
        have Z1 := Lib.hid (Z.out.below hb1)
        have hz1 := Nat.lt_of_lt_of_le hz0 hb1.size
        have z0 := Z1.out.c (i := 0) rfl
        go_wp2_with fail
        go_at_call 34
        (with_reducible refine (port_is port _ _ h2.out).mono ?_)
        rintro e w2 ⟨rfl, rfl⟩
        clear hb1
        have x0 := X1.out.c (i := 0) rfl
        have x1 := X1.out.c (i := 1) rfl
        have x2 := X1.out.c (i := 2) rfl
        have f0 := X1.out.f 0
        have f1 := X1.out.f 1
        have f2 := X1.out.f 2
        go_wp2_with fail
        refine bodyPost_ret (v := .tuple #[tbv (.slice none 0 0) 0 0, .int .i64 1]) (by simp [results, Try.results26, go_sem, x0, x1, x2]) rfl ⟨none, 0, 0, rfl, fun _ _ => TabS.empty _, ?_⟩
        repeat (first | with_reducible exact B1.out | refine Below.setCell ?_ (by first | omega | (simp; done) | (simp; omega)) _)
      | true =>
        obtain rfl : r = true := by rw [← hr, h1, h2, h3]; rfl
        have h3' : (port != -1) = false := by rw [bne, h3]; rfl
        replace h2 := Lib.hid h2
        replace h1 := Lib.hid h1
        clear hr
        go_enter Try.func26, Try.ntmps26
        go_wp2_with fail
        rw [← hw0]
        clear hw0
        go_at_call 12
        (with_reducible refine hR.out.mono ?_)
        rintro e w1 ⟨rfl, hb1⟩
        have B1 := Lib.hid (bt B0 hb1)
        have X1 := Lib.hid (X.out.below hb1)
        have Y1 := Lib.hid (Y.out.below hb1)
        have Z1 := Lib.hid (Z.out.below hb1)
        have hz1 := Nat.lt_of_lt_of_le hz0 hb1.size
        have z0 := Z1.out.c (i := 0) rfl
        go_wp2_with fail
        go_at_call 34
        (with_reducible refine (port_is port _ _ h2.out).mono ?_)
        rintro e w2 ⟨rfl, rfl⟩
        have y0 := Y1.out.c (i := 0) rfl
        have y1 := Y1.out.c (i := 1) rfl
        have y2 := Y1.out.c (i := 2) rfl
        have hP : PredB 54 #[.pointer (some ⟨w.heap.size + 1, 0, none⟩)] (flushP port) w1.heap.size w1 := fun W hW x =>
          flush1_any x port _ W ((hW.block _ Z1.out.lt).trans Z1.out)
        have hW := Lib.hid (fdWithout _ _ flush1_enters (flushP port) s ag (ht0.out.below hb1) hs.1 hs.2 hP)
        clear hb1 hP
        go_wp2_with fail
        go_at_call 51
        (with_reducible refine hW.out.mono ?_)
        rintro e w9 ⟨g, ps, rfl, hot, hrow, hb9⟩
        have B9 := Lib.hid (bt B1.out hb9)
        have X9 := X1.out.below hb9
        have hz9 := hz1
        have x0 := X9.c (i := 0) rfl
        have x1 := X9.c (i := 1) rfl
        have x2 := X9.c (i := 2) rfl
        have f0 := X9.f 0
        have f1 := X9.f 1
        have f2 := X9.f 2
        have hlen9 : ps.length = bs.length := by have := congrArg List.length hrow; simpa using this
        have hw9 : 0 ≤ w9.heap.size := Nat.zero_le _
        have hfin : OT (((w9.setCell ⟨w.heap.size + 2, 0, none⟩ (.slice (some ⟨g, 0, none⟩) (bs.map (keepL (flushP port))).length (bs.map (keepL (flushP port))).length)).setCell ⟨w.heap.size + 2, 1, none⟩ (.int .i64 s)).setCell ⟨w.heap.size + 2, 2, none⟩ (.int .i64 ag)) w1.heap.size g ps [] := ((hot.setLow hz9 _ _).setLow hz9 _ _).setLow hz9 _ _
        have hfin := Lib.hid (hfin.tabH (B' := w.heap.size) (by omega) hrow rfl)
        rw [List.length_map] at hfin
        clear hot X9 hb9 hW hlen9
        replace hrow := Lib.hid hrow
        go_wp2_with fail
        refine bodyPost_ret (v := .tuple #[tbv (.slice (some ⟨g, 0, none⟩) bs.length bs.length) s ag, .int .i64 0]) (by simp [results, Try.results26, go_sem, x0, x1, x2]) rfl ⟨_, _, _, rfl, ?_, ?_⟩
        · exact hfin.out
        · repeat (first | with_reducible exact B9.out | refine Below.setCell ?_ (by first | omega | (simp; done) | (simp; omega)) _)
    | true =>
      obtain rfl : r = true := by rw [← hr, h1, h2]; rfl
      replace h2 := Lib.hid h2
      replace h1 := Lib.hid h1
      clear hr
      go_enter Try.func26, Try.ntmps26
      go_wp2_with fail
      rw [← hw0]
      clear hw0
      go_at_call 12
      (with_reducible refine hR.out.mono ?_)
      rintro e w1 ⟨rfl, hb1⟩
      have B1 := Lib.hid (bt B0 hb1)
      have X1 := Lib.hid (X.out.below hb1)
      have Y1 := Lib.hid (Y.out.below hb1)
      have Z1 := Lib.hid (Z.out.below hb1)
      have hz1 := Nat.lt_of_lt_of_le hz0 hb1.size
      have z0 := Z1.out.c (i := 0) rfl
      go_wp2_with fail
      go_at_call 34
      (with_reducible refine (port_is port _ _ h2.out).mono ?_)
      rintro e w2 ⟨rfl, rfl⟩
      have y0 := Y1.out.c (i := 0) rfl
      have y1 := Y1.out.c (i := 1) rfl
      have y2 := Y1.out.c (i := 2) rfl
      have hP : PredB 54 #[.pointer (some ⟨w.heap.size + 1, 0, none⟩)] (flushP port) w1.heap.size w1 := fun W hW x =>
        flush1_any x port _ W ((hW.block _ Z1.out.lt).trans Z1.out)
      have hW := Lib.hid (fdWithout _ _ flush1_enters (flushP port) s ag (ht0.out.below hb1) hs.1 hs.2 hP)
      clear hb1 hP
      go_wp2_with fail
      go_at_call 51
      (with_reducible refine hW.out.mono ?_)
      rintro e w9 ⟨g, ps, rfl, hot, hrow, hb9⟩
      have B9 := Lib.hid (bt B1.out hb9)
      have X9 := X1.out.below hb9
      have hz9 := hz1
      have x0 := X9.c (i := 0) rfl
      have x1 := X9.c (i := 1) rfl
      have x2 := X9.c (i := 2) rfl
      have f0 := X9.f 0
      have f1 := X9.f 1
      have f2 := X9.f 2
      have hlen9 : ps.length = bs.length := by have := congrArg List.length hrow; simpa using this
      have hw9 : 0 ≤ w9.heap.size := Nat.zero_le _
      have hfin : OT (((w9.setCell ⟨w.heap.size + 2, 0, none⟩ (.slice (some ⟨g, 0, none⟩) (bs.map (keepL (flushP port))).length (bs.map (keepL (flushP port))).length)).setCell ⟨w.heap.size + 2, 1, none⟩ (.int .i64 s)).setCell ⟨w.heap.size + 2, 2, none⟩ (.int .i64 ag)) w1.heap.size g ps [] := ((hot.setLow hz9 _ _).setLow hz9 _ _).setLow hz9 _ _
      have hfin := Lib.hid (hfin.tabH (B' := w.heap.size) (by omega) hrow rfl)
      rw [List.length_map] at hfin
      clear hot X9 hb9 hW hlen9
      replace hrow := Lib.hid hrow
      go_wp2_with fail
      refine bodyPost_ret (v := .tuple #[tbv (.slice (some ⟨g, 0, none⟩) bs.length bs.length) s ag, .int .i64 0]) (by simp [results, Try.results26, go_sem, x0, x1, x2]) rfl ⟨_, _, _, rfl, ?_, ?_⟩
      · exact hfin.out
      · repeat (first | with_reducible exact B9.out | refine Below.setCell ?_ (by first | omega | (simp; done) | (simp; omega)) _)
end Go.Proofs.Ytnghilcjecjljaa.FdbP
