/-
  Contracts of footwayref08: Place, Old, entry, last.
-/
import Derived.Test.YtnghilcjecjljaaFdbT
import Derived.Test.YtnghilcjecjljaaRegGd
namespace Go.Proofs.Ytnghilcjecjljaa.FdbP
open Go.RowKit Go.Sort Go.Proofs.Ytnghilcjecjljaa.SliceP Go.Proofs.Ytnghilcjecjljaa.MacP
set_option linter.unusedVariables false
set_option maxRecDepth 100000

set_option maxHeartbeats 4000000 in
theorem r_place {A : Option Addr} {n c : Nat} {l : List E} {w : World} (hr : RowE w A n c l) (hl : l.length ≤ 1000000) (a : Int) :
    Calls Try.prog 42 #[.slice A n c, .int .i64 a] w fun e w' => e = .returned (.int .i64 (idxI l (isM a))) ∧ Below w.heap.size w w' := by
  obtain rfl := hr.len
  have H := Lib.hid hr
  clear hr
  go_enter Try.func42, Try.ntmps42
  go_wp2_with fail
  go_loopw [9] (fun i wr => ∃ k : Nat, k ≤ l.length ∧ i = .int .i64 k ∧ (l.take k).any (isM a) = false ∧ Below w.heap.size w wr) (fun i _ => l.length - (intOf i).toNat)
  case atStart => exact ⟨0, by omega, rfl, rfl, Below.refl _ _⟩
  case round =>
    obtain ⟨k, hk, rfl, hno, hb⟩ := hrel
    replace hno := Lib.hid hno
    by_cases hlk : k < l.length
    · obtain ⟨x, hx⟩ : ∃ x, l[k]? = some x := ⟨_, List.getElem?_eq_getElem hlk⟩
      obtain ⟨b, o, rfl, hbw, x0, x1, x2, x3⟩ := RowE.at_ (H.out.below hb) hx
      have B1 := Lib.hid (hb.alloc hb.size (eObj x.mac x.port x.seen x.st))
      replace hx := Lib.hid hx
      cases hh : x.mac == a
      · have hq : isM a x = false := hh
        replace hq := Lib.hid hq
        go_wp2_with fail
        go_roundw
        case rel => exact ⟨k + 1, by omega, by go_num, any_more hno.out hx.out hq.out, B1.out⟩
        case measure => simp [intOf]; omega
      · have hq : isM a x = true := hh
        replace hq := Lib.hid hq
        go_wp2_with fail
        go_ret
        exact ⟨by rw [idx_hit hno.out hx.out hq.out]; rfl, B1.out⟩
    · obtain rfl : k = l.length := by omega
      go_wp2_with fail
      go_ret
      exact ⟨by rw [idx_none hno.out]; rfl, hb⟩
set_option maxHeartbeats 2000000 in
theorem r_old (x : E) (v : Value) (s ag now : Int) (w : World) : Calls Try.prog 48 #[tbv v s ag, x.val, .int .i64 now] w fun e w' => e = .returned (.bool (oldW ag now x)) ∧ Below w.heap.size w w' := by
  unfold oldW
  obtain ⟨d, hd⟩ : ∃ d, IntKind.i64.wrap (now - x.seen) = d := ⟨_, rfl⟩
  rw [hd]
  obtain ⟨m, p, sn, b⟩ := x
  simp only at hd ⊢
  have B0 : Below w.heap.size w ((w.alloc (tObj v s ag)).alloc (eObj m p sn b)) := ((Below.refl _ _).alloc (Nat.le_refl _) _).alloc (by simp) _
  cases b <;> cases h : decide (ag < d)
  all_goals
    go_enter Try.func48, Try.ntmps48
    go_wp2
    go_ret
    exact ⟨rfl, B0⟩
def entryB (x : E) (b n : Int) : Bool := rightE x && (bucketI x.mac n == b)
set_option maxHeartbeats 8000000 in
theorem r_entry (x : E) (b n : Int) (w : World) (hn : numB n = true) : Calls Try.prog 41 #[x.val, .int .i64 b, .int .i64 n] w fun e w' => e = .returned (.bool (entryB x b n)) ∧ Below w.heap.size w w' := by
  obtain ⟨m, p, sn, st⟩ := x
  unfold entryB rightE
  simp only
  have B0 : Below w.heap.size w (w.alloc (eObj m p sn st)) := (Below.refl _ _).alloc (Nat.le_refl _) _
  have hMac := Lib.hid fun W => r_mac_any m W
  have hPort := Lib.hid fun W => r_port_any p W
  have hTime := Lib.hid fun W => r_time_any sn W
  cases hm : macB m with
  | false =>
    rw [hm] at hMac
    go_enter Try.func41, Try.ntmps41
    go_wp2_with fail
    go_at_call 18
    (with_reducible refine (hMac.out _).mono ?_)
    rintro e w1 ⟨rfl, rfl⟩
    go_wp2_with fail
    go_ret
    exact ⟨by simp, B0⟩
  | true =>
    have had := macB_ad hm
    have hB := Lib.hid fun W => r_bucket_any m n W had.1 had.2 hn
    rw [hm] at hMac
    clear had
    cases hp : portB p with
    | false =>
      rw [hp] at hPort
      go_enter Try.func41, Try.ntmps41
      go_wp2_with fail
      go_at_call 18
      (with_reducible refine (hMac.out _).mono ?_)
      rintro e w1 ⟨rfl, rfl⟩
      go_wp2_with fail
      go_at_call 21
      (with_reducible refine (hPort.out _).mono ?_)
      rintro e w1 ⟨rfl, rfl⟩
      go_wp2_with fail
      go_ret
      exact ⟨by simp, B0⟩
    | true =>
      rw [hp] at hPort
      cases ht : timeB sn with
      | false =>
        rw [ht] at hTime
        go_enter Try.func41, Try.ntmps41
        go_wp2_with fail
        go_at_call 18
        (with_reducible refine (hMac.out _).mono ?_)
        rintro e w1 ⟨rfl, rfl⟩
        go_wp2_with fail
        go_at_call 21
        (with_reducible refine (hPort.out _).mono ?_)
        rintro e w1 ⟨rfl, rfl⟩
        go_wp2_with fail
        go_at_call 19
        (with_reducible refine (hTime.out _).mono ?_)
        rintro e w1 ⟨rfl, rfl⟩
        go_wp2_with fail
        go_ret
        exact ⟨by simp, B0⟩
      | true =>
        rw [ht] at hTime
        cases hg : !st || sn == 0 with
        | false =>
          obtain ⟨rfl, hz⟩ : st = true ∧ (sn == 0) = false := by cases st <;> simp_all
          go_enter Try.func41, Try.ntmps41
          go_wp2_with fail
          go_at_call 18
          (with_reducible refine (hMac.out _).mono ?_)
          rintro e w1 ⟨rfl, rfl⟩
          go_wp2_with fail
          go_at_call 21
          (with_reducible refine (hPort.out _).mono ?_)
          rintro e w1 ⟨rfl, rfl⟩
          go_wp2_with fail
          go_at_call 19
          (with_reducible refine (hTime.out _).mono ?_)
          rintro e w1 ⟨rfl, rfl⟩
          go_wp2_with fail
          go_ret
          exact ⟨by simp, B0⟩
        | true =>
          have hways : st = false ∨ (st = true ∧ (sn == 0) = true) := by cases st <;> simp_all
          generalize bucketI m n = bk at *
          rcases hways with rfl | ⟨rfl, hz⟩ <;> cases hbk : bk == b
          all_goals
            go_enter Try.func41, Try.ntmps41
            go_wp2_with fail
            go_at_call 18
            (with_reducible refine (hMac.out _).mono ?_)
            rintro e w1 ⟨rfl, rfl⟩
            go_wp2_with fail
            go_at_call 21
            (with_reducible refine (hPort.out _).mono ?_)
            rintro e w1 ⟨rfl, rfl⟩
            go_wp2_with fail
            go_at_call 19
            (with_reducible refine (hTime.out _).mono ?_)
            rintro e w1 ⟨rfl, rfl⟩
            go_wp2_with fail
            go_at_call 67
            (with_reducible refine (hB.out _).mono ?_)
            rintro e w1 ⟨rfl, hb1⟩
            have B1 := bt B0 hb1
            go_wp2_with fail
            go_ret
            exact ⟨by simp, B1⟩
/-- The last one that is not static, by its place. -/
def lastK (l : List E) : Nat → Int
  | 0 => -1
  | k + 1 => match l[k]? with
    | some x => if x.st then lastK l k else (k : Int)
    | none => lastK l k
set_option maxHeartbeats 4000000 in
theorem r_last {A : Option Addr} {n c : Nat} {l : List E} {w : World} (hr : RowE w A n c l) (hl : l.length ≤ 1000000) :
    Calls Try.prog 68 #[.slice A n c] w fun e w' => e = .returned (.int .i64 (lastK l l.length)) ∧ Below w.heap.size w w' := by
  obtain rfl := hr.len
  have H := Lib.hid hr
  clear hr
  go_enter Try.func68, Try.ntmps68
  go_wp2_with fail
  go_loopw [3, 8] (fun v i wr => ∃ k : Nat, k ≤ l.length ∧ i = .int .i64 k ∧ v = .int .i64 (lastK l k) ∧ Below w.heap.size w wr) (fun _ i _ => l.length - (intOf i).toNat)
  case atStart => exact ⟨0, by omega, rfl, rfl, Below.refl _ _⟩
  case round =>
    obtain ⟨k, hk, rfl, rfl, hb⟩ := hrel
    by_cases hlk : k < l.length
    · obtain ⟨x, hx⟩ : ∃ x, l[k]? = some x := ⟨_, List.getElem?_eq_getElem hlk⟩
      obtain ⟨b, o, rfl, hbw, x0, x1, x2, x3⟩ := RowE.at_ (H.out.below hb) hx
      have B1 := Lib.hid (hb.alloc hb.size (eObj x.mac x.port x.seen x.st))
      have hs : lastK l (k + 1) = if x.st then lastK l k else (k : Int) := by
        conv => lhs; unfold lastK
        rw [hx]
      replace hs := Lib.hid hs
      clear hx
      cases hst : x.st
      · rw [hst] at x3 hs B1
        go_wp2_with fail
        go_roundw
        case rel => exact ⟨k + 1, by omega, by go_num, by rw [hs.out]; rfl, B1.out⟩
        case measure => simp [intOf]; omega
      · rw [hst] at x3 hs B1
        go_wp2_with fail
        go_roundw
        case rel => exact ⟨k + 1, by omega, by go_num, by rw [hs.out]; rfl, B1.out⟩
        case measure => simp [intOf]; omega
    · obtain rfl : k = l.length := by omega
      go_wp2_with fail
      go_ret
      exact ⟨rfl, hb⟩
end Go.Proofs.Ytnghilcjecjljaa.FdbP

/-
  Contracts of footwayref08: bucket, without, rows, Same.
-/
namespace Go.Proofs.Ytnghilcjecjljaa.FdbP
open Go.RowKit Go.Sort Go.Proofs.Ytnghilcjecjljaa.SliceP Go.Proofs.Ytnghilcjecjljaa.MacP
set_option linter.unusedVariables false
set_option maxRecDepth 100000

def RetRow (w : World) (l : List E) (e : Ending) (w' : World) : Prop := ∃ A n c, e = .returned (.slice A n c) ∧ RowE w' A n c l ∧ Below w.heap.size w w'
set_option maxHeartbeats 4000000 in
theorem r_buck {A : Option Addr} {n c : Nat} {bs : List (List E)} (s ag a : Int) {w : World} (ht : TabS w A n c bs) (hn : numB (bs.length : Int) = true) (hm : macB a = true) :
    Calls Try.prog 47 #[tbv (.slice A n c) s ag, .int .i64 a] w (RetRow w (buck bs a)) := by
  obtain rfl := ht.len
  obtain ⟨k, hk1, hk2, hk3⟩ := buck_at (a := a) hn
  obtain ⟨b, o, A', n', c', rfl, hbw, q0, hr⟩ := ht.at_ k _ hk3
  have had := macB_ad hm
  have hcall := fun W => r_bucket_any a bs.length W had.1 had.2 hn
  rw [hk1] at hcall
  have hkn : (k : Int) < (bs.length : Int) := by omega
  have hk0 : (0 : Int) ≤ (k : Int) := by omega
  obtain ⟨W, hW⟩ : ∃ W, W = w.alloc (tObj (.slice (some ⟨b, o, none⟩) bs.length c) s ag) := ⟨_, rfl⟩
  have bW : Below w.heap.size w W := by rw [hW]; exact (Below.refl _ _).alloc (Nat.le_refl _) _
  have Y : Bx W w.heap.size TT #[.slice (some ⟨b, o, none⟩) bs.length c, .int .i64 s, .int .i64 ag] := by rw [hW]; exact Bx.new _ _ _ rfl
  have q1 := (bW.cell (p := ⟨b, _, none⟩) hbw).trans q0
  have HR := Lib.hid (hr.below bW)
  clear hr had hk1 hk3 hn hm
  go_enter Try.func47, Try.ntmps47
  go_wp2_with fail
  rw [← hW]
  have K0 := cell_regrown (Y.c (i := 0) rfl)
  have K1 := cell_regrown q1
  have cC0 := fun (d : Nat) (os : Array Obj) => Calls.regrown_of (hcall (Go.Sort.grow (redrawn W d) os))
  clear hW q0 q1 hcall Y hbw ht
  refine wp_region_quiet_below (by kernel_rfl) (by kernel_rfl) ?_
  repeat (first | go_big_quiet_step (with_reducible exact cC0 _ _) | quiet_step (with_reducible exact cC0 _ _))
  refine wpQuiet_nil ?_
  intro _ hw'
  obtain ⟨⟨dq, osq⟩, hw''⟩ := hw'
  subst hw''
  have bq := below_regrown W dq osq
  clear K0 K1 cC0
  generalize Go.Sort.grow (redrawn W dq) osq = W1 at *
  have R1 := Lib.hid (HR.out.below bq)
  have B1 := Lib.hid (bt bW bq)
  clear HR bq bW
  go_wp2_with fail
  go_ret
  exact ⟨A', n', c', rfl, R1.out, B1.out⟩

theorem own_litE (W : World) (cs : Array Value) (l : List E) (B n : Nat) (hB : B ≤ W.heap.size) (hn : n = l.length) (hc : cs.toList = (l.map E.cells).flatten) (hl : l.length ≤ 1000000) :
    OwnE (W.alloc (.cells cs 57)) B (.slice (some ⟨W.heap.size, 0, none⟩) n n) l := by
  subst hn
  refine ⟨?_, wholeE l⟩
  have hfl : (l.map E.cells).flatten.length = l.length * 4 := by
    rw [flatten_length _ 4 (fun c hc => (wholeE l c hc).1), List.length_map]
  have hs : cs.size = l.length * 4 := by rw [← Array.length_toList, hc, hfl]
  have := World.ownsRow_lit (base := B) (e := 57) (size := 4) W cs l.length hB (by unfold maxLen; omega) hs
  rw [hc] at this
  rw [List.length_map]
  exact this
theorem sl_oneE (W : World) (x : E) (n : Nat) (hn : W.heap.size = n) : Sl (W.alloc (eObj x.mac x.port x.seen x.st)) 4 (some ⟨n, 0, none⟩) [x.cells] := by
  subst hn
  have := (own_rowE (own_litE W #[.int .i64 x.mac, .int .i64 x.port, .int .i64 x.seen, .bool x.st] [x] W.heap.size 1 (Nat.le_refl _) rfl rfl (by simp))).sl
  exact this
set_option maxHeartbeats 8000000 in
theorem r_without {A : Option Addr} {n c : Nat} {l : List E} {w : World} (hr : RowE w A n c l) (hl : l.length ≤ 100000) (a : Int) :
    Calls Try.prog 56 #[.slice A n c, .int .i64 a] w (RetRow w (keepL (isM a) l)) := by
  obtain rfl := hr.len
  obtain ⟨w0, hw0⟩ : ∃ w0, w0 = w.alloc (.cells #[] 57) := ⟨_, rfl⟩
  have B0 := Lib.hid (show Below w.heap.size w w0 by rw [hw0]; exact (Below.refl _ _).alloc (Nat.le_refl _) _)
  have O0 := Lib.hid (show OwnE w0 w.heap.size (.slice (some ⟨w.heap.size, 0, none⟩) 0 0) [] by rw [hw0]; exact own_litE w #[] [] w.heap.size 0 (Nat.le_refl _) rfl rfl (by simp))
  have H := Lib.hid hr
  clear hr
  go_enter Try.func56, Try.ntmps56
  go_wp2_with fail
  rw [← hw0]
  clear hw0
  go_loopw [5, 11] (fun v i wr => ∃ k : Nat, k ≤ l.length ∧ i = .int .i64 k ∧ OwnE wr w.heap.size v (keepL (isM a) (l.take k)) ∧ Below w.heap.size w wr) (fun _ i _ => l.length - (intOf i).toNat)
  case atStart => exact ⟨0, by omega, rfl, O0.out, B0.out⟩
  case round =>
    clear O0 B0
    obtain ⟨k, hk, rfl, hown, hb⟩ := hrel
    replace hown := Lib.hid hown
    by_cases hlk : k < l.length
    · obtain ⟨x, hx⟩ : ∃ x, l[k]? = some x := ⟨_, List.getElem?_eq_getElem hlk⟩
      obtain ⟨b, o, rfl, hbw, x0, x1, x2, x3⟩ := RowE.at_ (H.out.below hb) hx
      have hs := hb.size
      obtain ⟨W, hW⟩ : ∃ W, W = wr.alloc (eObj x.mac x.port x.seen x.st) := ⟨_, rfl⟩
      have BW : Below wr.heap.size wr W := by rw [hW]; exact (Below.refl _ _).alloc (Nat.le_refl _) _
      have XW : Bx W wr.heap.size 57 #[.int .i64 x.mac, .int .i64 x.port, .int .i64 x.seen, .bool x.st] := by rw [hW]; exact Bx.new _ _ _ rfl
      have hzW : wr.heap.size < W.heap.size := XW.lt
      have bW := Lib.hid (hb.trans (BW.mono hs))
      have y0 := XW.c (i := 0) rfl
      have y1 := XW.c (i := 1) rfl
      have y2 := XW.c (i := 2) rfl
      have y3 := XW.c (i := 3) rfl
      have ownW := Lib.hid (hown.out.below BW)
      have hke := keepL_snoc (p := isM a) hx
      clear XW BW hx
      replace hs := Lib.hid hs
      cases hm : x.mac == a with
      | true =>
        have hq : isM a x = true := hm
        have hm' : (x.mac != a) = false := by simpa using hm
        rw [hq, if_pos rfl, List.append_nil] at hke
        replace hke := Lib.hid hke
        replace hq := Lib.hid hq
        go_wp2_with fail
        rw [← hW]
        clear hW x0 x1 x2 x3
        go_roundw
        case rel => exact ⟨k + 1, by omega, by go_num, by rw [hke.out]; exact ownW.out, bW.out⟩
        case measure => simp [intOf]; omega
      | false =>
        have hq : isM a x = false := hm
        have hm' : (x.mac != a) = true := by simpa using hm
        rw [hq] at hke
        replace hke := Lib.hid (show keepL (isM a) (l.take (k + 1)) = keepL (isM a) (l.take k) ++ [x] by rw [hke]; rfl)
        replace hq := Lib.hid hq
        have own2 := Lib.hid (ownW.out.below ((Below.refl _ _).alloc (Nat.le_refl _) (eObj x.mac x.port x.seen x.st)))
        have hlen := keepL_le (isM a) (l.take k)
        rw [List.length_take] at hlen
        have hn1 : Hid (((keepL (isM a) (l.take k)).map E.cells).length + [x.cells].length ≤ 1000000) := Lib.hid (by rw [List.length_map]; simp; omega)
        have hB2 : Hid (w.heap.size ≤ (W.alloc (eObj x.mac x.port x.seen x.st)).heap.size) := Lib.hid (by have := bW.out.size; simp; omega)
        have hsl := Lib.hid (sl_oneE W x (wr.heap.size + 1) (by rw [hW]; simp))
        have hsz : wr.heap.size + 1 = W.heap.size := by rw [hW]; simp
        have bW2 := Lib.hid (bW.out.alloc bW.out.size (eObj x.mac x.port x.seen x.st))
        replace hlen := Lib.hid hlen
        replace hsz := Lib.hid hsz
        rw [hW] at own2 hB2 hsl bW2
        clear ownW
        go_wp2_with (at_builtin; (refine wpList_append_sl rfl (.tmp 19) (.tmp 21) 55 rfl elE (by rfl) own2.out (by rfl) (by rfl) hsl.out (wholeE [x]) (fun h => by cases h) hn1.out hB2.out ?_); intro v' w1 own1 grow1 _)
        have B1 : Below w.heap.size w w1 := bW2.out.grown grow1 bW2.out.size (fun k hk => (hown.out.lt k hk).1)
        go_roundw
        case rel => exact ⟨k + 1, by omega, by go_num, by rw [hke.out]; unfold OwnE; rw [List.map_append]; exact own1, B1⟩
        case measure => simp [intOf]; omega
    · obtain rfl : k = l.length := by omega
      rw [List.take_length] at hown
      obtain ⟨A9, c9, hv, _⟩ := hown.out.form
      rw [List.length_map] at hv
      subst hv
      have hrow := Lib.hid (own_rowE hown.out)
      replace hb := Lib.hid hb
      clear hown
      generalize hnn : (keepL (isM a) l).length = nn at *
      go_wp2_with fail
      go_ret
      exact ⟨A9, nn, c9, rfl, hrow.out, hb.out⟩
/-- Two rows that are the same. -/
theorem neqE (x : E) (w : World) : (binOp .neq 57 x.val x.val).run Try.prog w = .ok (.bool false) w := by
  rw [neq_ent]; simp
set_option maxHeartbeats 4000000 in
theorem r_rows {A A' : Option Addr} {n n' c c' : Nat} {l : List E} {w : World} (hr : RowE w A n c l) (hr' : RowE w A' n' c' l) (hl : l.length ≤ 1000000) :
    Calls Try.prog 44 #[.slice A n c, .slice A' n' c'] w fun e w' => e = .returned (.bool true) ∧ Below w.heap.size w w' := by
  obtain rfl := hr.len
  obtain rfl := hr'.len
  have H := Lib.hid hr
  have H' := Lib.hid hr'
  clear hr hr'
  go_enter Try.func44, Try.ntmps44
  go_wp2_with fail
  go_loopw [13] (fun i wr => ∃ k : Nat, k ≤ l.length ∧ i = .int .i64 k ∧ Below w.heap.size w wr) (fun i _ => l.length - (intOf i).toNat)
  case atStart => exact ⟨0, by omega, rfl, Below.refl _ _⟩
  case round =>
    obtain ⟨k, hk, rfl, hb⟩ := hrel
    by_cases hlk : k < l.length
    · obtain ⟨x, hx⟩ : ∃ x, l[k]? = some x := ⟨_, List.getElem?_eq_getElem hlk⟩
      obtain ⟨b, o, rfl, hbw, x0, x1, x2, x3⟩ := RowE.at_ (H.out.below hb) hx
      obtain ⟨b', o', rfl, hbw', z0, z1, z2, z3⟩ := RowE.at_ (H'.out.below hb) hx
      have hE := neqE x
      replace hb := Lib.hid hb
      clear hx
      go_wp2_with fail
      have K0 := cell_regrown x0
      have K1 := cell_regrown x1
      have K2 := cell_regrown x2
      have K3 := cell_regrown x3
      have L0 := cell_regrown z0
      have L1 := cell_regrown z1
      have L2 := cell_regrown z2
      have L3 := cell_regrown z3
      clear x0 x1 x2 x3 z0 z1 z2 z3 hbw hbw'
      refine wp_region_quiet_below (by kernel_rfl) (by kernel_rfl) ?_
      repeat (first | go_big_quiet_step (fail) | quiet_step (fail))
      refine wpQuiet_nil ?_
      intro _ hw'
      obtain ⟨⟨dq, osq⟩, hw''⟩ := hw'
      subst hw''
      have bq := below_regrown wr dq osq
      clear K0 K1 K2 K3 L0 L1 L2 L3
      generalize Go.Sort.grow (redrawn wr dq) osq = W1 at *
      have B1 := bt hb.out bq
      clear bq
      go_wp2_with fail
      go_roundw
      case rel => exact ⟨k + 1, by omega, by go_num, B1⟩
      case measure => simp [intOf]; omega
    · obtain rfl : k = l.length := by omega
      go_wp2_with fail
      go_ret
      exact ⟨rfl, hb⟩
set_option maxHeartbeats 8000000 in
theorem r_same {A A' : Option Addr} {n n' c c' : Nat} {bs : List (List E)} (s ag : Int) {w : World} (ht : TabS w A n c bs) (ht' : TabS w A' n' c' bs) (hs : Small bs) :
    Calls Try.prog 16 #[tbv (.slice A n c) s ag, tbv (.slice A' n' c') s ag] w fun e w' => e = .returned (.bool true) ∧ Below w.heap.size w w' := by
  obtain rfl := ht.len
  obtain rfl := ht'.len
  have hs1 := hs.1
  have hs2 := Lib.hid hs.2
  have H := Lib.hid ht
  have H' := Lib.hid ht'
  obtain ⟨W, hW⟩ : ∃ W, W = (w.alloc (tObj (.slice A bs.length c) s ag)).alloc (tObj (.slice A' bs.length c') s ag) := ⟨_, rfl⟩
  have BW := Lib.hid (show Below w.heap.size w W by rw [hW]; exact ((Below.refl _ _).alloc (Nat.le_refl _) _).alloc (by simp) _)
  have Y := Lib.hid (show Bx W w.heap.size TT #[.slice A bs.length c, .int .i64 s, .int .i64 ag] by rw [hW]; exact (Bx.new _ _ _ rfl).alloc _)
  have X := Lib.hid (show Bx W (w.heap.size + 1) TT #[.slice A' bs.length c', .int .i64 s, .int .i64 ag] by rw [hW]; exact Bx.new _ _ _ (by simp))
  have hz0 : w.heap.size + 1 < W.heap.size := X.out.lt
  clear ht ht' hs
  go_enter Try.func16, Try.ntmps16
  go_wp2_with fail
  rw [← hW]
  clear hW
  replace hz0 := Lib.hid hz0
  go_loopw [30] (fun i wr => ∃ k : Nat, k ≤ bs.length ∧ i = .int .i64 k ∧ Below W.heap.size W wr) (fun i _ => bs.length - (intOf i).toNat)
  case atStart => exact ⟨0, by omega, rfl, Below.refl _ _⟩
  case round =>
    obtain ⟨k, hk, rfl, hb⟩ := hrel
    by_cases hlk : k < bs.length
    · obtain ⟨l, hx⟩ : ∃ l, bs[k]? = some l := ⟨_, List.getElem?_eq_getElem hlk⟩
      have hbb := bt BW.out hb
      obtain ⟨b, o, A1, n1, c1, rfl, hbw, q0, r0⟩ := (H.out.below hbb).at_ k _ hx
      obtain ⟨b', o', A2, n2, c2, rfl, hbw', q1, r1⟩ := (H'.out.below hbb).at_ k _ hx
      have hll := hs2.out l (List.mem_of_getElem? hx)
      have K0 := cell_regrown ((Y.out.below hb).c (i := 0) rfl)
      have K1 := cell_regrown ((X.out.below hb).c (i := 0) rfl)
      have K2 := cell_regrown q0
      have K3 := cell_regrown q1
      have cC0 := fun (d : Nat) (os : Array Obj) => Calls.regrown_of (r_rows (r0.below (below_regrown wr d os)) (r1.below (below_regrown wr d os)) hll)
      replace hb := Lib.hid hb
      clear hx hbb q0 q1 r0 r1 hbw hbw' hll
      go_wp2_with fail
      refine wp_region_quiet_below (by kernel_rfl) (by kernel_rfl) ?_
      repeat (first | go_big_quiet_step (with_reducible exact cC0 _ _) | quiet_step (with_reducible exact cC0 _ _))
      refine wpQuiet_nil ?_
      intro _ hw'
      obtain ⟨⟨dq, osq⟩, hw''⟩ := hw'
      subst hw''
      have bq := below_regrown wr dq osq
      clear K0 K1 K2 K3 cC0
      generalize Go.Sort.grow (redrawn wr dq) osq = W1 at *
      have B1 := bt hb.out bq
      clear bq
      go_wp2_with fail
      go_roundw
      case rel => exact ⟨k + 1, by omega, by go_num, B1⟩
      case measure => simp [intOf]; omega
    · obtain rfl : k = bs.length := by omega
      have B9 := bt BW.out hb
      go_wp2_with fail
      go_ret
      exact ⟨rfl, B9⟩
end Go.Proofs.Ytnghilcjecjljaa.FdbP

/-
  Contracts of footwayref08: with, New, Find.
-/
namespace Go.Proofs.Ytnghilcjecjljaa.FdbP
open Go.RowKit Go.Sort Go.Proofs.Ytnghilcjecjljaa.SliceP Go.Proofs.Ytnghilcjecjljaa.MacP
set_option linter.unusedVariables false
set_option maxRecDepth 100000

abbrev Sla : Type := Option Addr × Nat × Nat
def rcell (r : Sla) : List Value := [.slice r.1 r.2.1 r.2.2]
abbrev OwnR (w : World) (B : Nat) (v : Value) (rs : List Sla) : Prop := SliceP.Own w B 55 1 v (rs.map rcell)
theorem whole_r (rs : List Sla) : Whole 1 (rs.map rcell) := fun cs hc => by
  obtain ⟨r, _, rfl⟩ := List.mem_map.1 hc
  exact ⟨rfl, fun u hu => by simp [rcell] at hu; subst hu; rfl⟩
theorem own_litR (W : World) (cs : Array Value) (rs : List Sla) (B n : Nat) (hB : B ≤ W.heap.size) (hn : n = rs.length) (hc : cs.toList = (rs.map rcell).flatten) (hl : rs.length ≤ 1000000) :
    OwnR (W.alloc (.cells cs 55)) B (.slice (some ⟨W.heap.size, 0, none⟩) n n) rs := by
  subst hn
  refine ⟨?_, whole_r rs⟩
  have hfl : (rs.map rcell).flatten.length = rs.length * 1 := by
    rw [flatten_length _ 1 (fun c hc => (whole_r rs c hc).1), List.length_map]
  have hs : cs.size = rs.length * 1 := by rw [← Array.length_toList, hc, hfl]
  have := World.ownsRow_lit (base := B) (e := 55) (size := 1) W cs rs.length hB (by unfold maxLen; omega) hs
  rw [hc] at this
  rw [List.length_map]
  exact this
theorem sl_oneR (W : World) (r : Sla) (n : Nat) (hn : W.heap.size = n) : Sl (W.alloc (.cells #[.slice r.1 r.2.1 r.2.2] 55)) 1 (some ⟨n, 0, none⟩) [rcell r] := by
  subst hn
  have := (own_litR W #[.slice r.1 r.2.1 r.2.2] [r] W.heap.size 1 (Nat.le_refl _) rfl rfl (by simp))
  exact Own.sl this (by decide)
theorem OwnR.set {w : World} {B q : Nat} {v : Value} {rs : List Sla} (h : OwnR w B v rs) (hq : q < B) (i : Nat) (u : Value) : OwnR (w.setCell ⟨q, i, none⟩ u) B v rs :=
  Own.kept h (setCell_grown' w q i u) (by
    cases hv : v.ownBlock with
    | none => exact .inl rfl
    | some k => exact .inr (by have := (h.lt k hv).1; simp; omega))
theorem own_tabR {w : World} {B : Nat} {A : Option Addr} {n c : Nat} {rs : List Sla} {bs : List (List E)} (ho : OwnR w B (.slice A n c) rs) (hl : rs.length = bs.length) (h : ∀ (k : Nat) (r : Sla) (xs : List E), rs[k]? = some r → bs[k]? = some xs → RowE w r.1 r.2.1 r.2.2 xs) : TabS w A n c bs := by
  obtain ⟨A9, c9, hv, hcap, _, hA⟩ := ho.form
  have hsl := ho.sl (by decide)
  injection hv with e1 e2 e3
  subst e1; subst e3
  rw [List.length_map] at e2 hcap
  refine ⟨by omega, by omega, fun hn => ?_, fun k xs hk => ?_⟩
  · rcases hA with ⟨_, _, h0⟩ | ⟨g, h1, _⟩
    · exact h0
    · rw [hn] at h1; cases h1
  · have hkl : k < rs.length := by have := (List.getElem?_eq_some_iff.1 hk).1; omega
    obtain ⟨r, hr⟩ : ∃ r, rs[k]? = some r := ⟨_, List.getElem?_eq_getElem hkl⟩
    obtain ⟨b, o, rfl, hb, hx⟩ := Sl.at_ hsl (k := k) (cs := rcell r) (by rw [List.getElem?_map, hr]; rfl)
    have hx0 := hx 0 _ rfl
    rw [Nat.mul_one, Nat.add_zero] at hx0
    exact ⟨b, o, r.1, r.2.1, r.2.2, rfl, hb, hx0, h k r xs hr hk⟩
theorem build_nil (w : World) : (Instr.buildSlice 22 0 #[]).run Try.prog w = .ok (.slice (some ⟨w.heap.size, 0, none⟩) 0 0) (w.alloc (.cells #[] 55)) := by kernel_rfl
/-- A table handed back. -/
def RetT (w : World) (bs : List (List E)) (s ag : Int) (e : Ending) (w' : World) : Prop := ∃ A n c, e = .returned (tbv (.slice A n c) s ag) ∧ TabS w' A n c bs ∧ Below w.heap.size w w'
theorem TabS.row {w : World} {A : Option Addr} {n c : Nat} {bs : List (List E)} (h : TabS w A n c bs) {k : Nat} {xs : List E} (hk : bs[k]? = some xs) : ∃ (b o : Nat) (r : Sla), A = some ⟨b, o, none⟩ ∧ b < w.heap.size ∧ w.cell? ⟨b, o + k, none⟩ = some (.slice r.1 r.2.1 r.2.2) ∧ RowE w r.1 r.2.1 r.2.2 xs := by
  obtain ⟨b, o, A', n', c', h1, h2, h3, h4⟩ := h.at_ k xs hk
  exact ⟨b, o, ⟨A', n', c'⟩, h1, h2, h3, h4⟩
set_option maxHeartbeats 8000000 in
theorem r_with {A A' : Option Addr} {n c n' c' : Nat} {bs : List (List E)} {l : List E} (s ag a : Int) {w : World} (ht : TabS w A n c bs) (hr : RowE w A' n' c' l) (hn : numB (bs.length : Int) = true) (hm : macB a = true) :
    Calls Try.prog 55 #[tbv (.slice A n c) s ag, .int .i64 a, .slice A' n' c'] w (RetT w (bs.set (bucketI a bs.length).toNat l) s ag) := by
  obtain rfl := ht.len
  obtain ⟨kk, hk1, hk2, hk3⟩ := buck_at (a := a) hn
  have hnb := numB_cases hn
  have hbl : bs.length ≤ 16 := by omega
  have had := macB_ad hm
  have hcall := Lib.hid fun W => r_bucket_any a bs.length W had.1 had.2 hn
  rw [hk1] at hcall ⊢
  rw [Int.toNat_natCast]
  obtain ⟨w0, hw0⟩ : ∃ w0, w0 = (w.alloc (tObj (.slice A bs.length c) s ag)).alloc (tObj (.slice none 0 0) 0 0) := ⟨_, rfl⟩
  have B0 : Below w.heap.size w w0 := by rw [hw0]; exact ((Below.refl _ _).alloc (Nat.le_refl _) _).alloc (by simp) _
  have Y := Lib.hid (show Bx w0 w.heap.size TT #[.slice A bs.length c, .int .i64 s, .int .i64 ag] by rw [hw0]; exact (Bx.new w _ _ rfl).alloc _)
  have X := Lib.hid (show Bx w0 (w.heap.size + 1) TT #[.slice none 0 0, .int .i64 0, .int .i64 0] by rw [hw0]; exact Bx.new _ _ _ (by simp))
  have hz0 := Lib.hid X.out.lt
  obtain ⟨w1, hw1⟩ : ∃ w1, w1 = w0.alloc (.cells #[] 55) := ⟨_, rfl⟩
  have B1 : Below w0.heap.size w0 w1 := by rw [hw1]; exact (Below.refl _ _).alloc (Nat.le_refl _) _
  have O1 := Lib.hid (show OwnR w1 w0.heap.size (.slice (some ⟨w0.heap.size, 0, none⟩) 0 0) [] by rw [hw1]; exact own_litR w0 #[] [] w0.heap.size 0 (Nat.le_refl _) rfl rfl (by simp))
  have hzz : w.heap.size + 1 + 1 = w0.heap.size := by rw [hw0]; simp
  have hzy : w.heap.size < w0.heap.size := Y.out.lt
  have H := Lib.hid ht
  have HR := Lib.hid hr
  clear ht hr hn hm hnb had hk1 hk3
  replace B0 := Lib.hid B0
  have Yw := Y.out.below B1
  obtain ⟨v0, v1, v2⟩ := Bx.four' Yw
  replace B1 := Lib.hid B1
  replace hzz := Lib.hid hzz
  go_enter Try.func55, Try.ntmps55
  go_wp2_with fail
  rw [hzz.out, ← hw0, ← hw1]
  clear hw0 hw1 v0 v1 v2 Yw
  go_loopw [7, 14] (fun v i wr => ∃ (k : Nat) (rs : List Sla), k ≤ bs.length ∧ rs.length = k ∧ i = .int .i64 k ∧ OwnR wr w0.heap.size v rs ∧ (∀ (j : Nat) (r : Sla) (xs : List E), rs[j]? = some r → (bs.set kk l)[j]? = some xs → RowE w r.1 r.2.1 r.2.2 xs) ∧ Below w0.heap.size w0 wr) (fun _ i _ => bs.length - (intOf i).toNat)
  case atStart => exact ⟨0, [], by omega, rfl, rfl, O1.out, (fun j r xs h => by simp at h), B1.out⟩
  case round =>
    clear O1 B1
    obtain ⟨k, rs, hk, hrs, rfl, hown, hrows, hb⟩ := hrel
    replace hown := Lib.hid hown
    replace hrows := Lib.hid hrows
    by_cases hlk : k < bs.length
    · obtain ⟨xs, hx⟩ : ∃ xs, bs[k]? = some xs := ⟨_, List.getElem?_eq_getElem hlk⟩
      obtain ⟨b, o, r, rfl, hbw, q0, hrow⟩ := H.out.row hx
      have hbb := B0.out.trans (hb.mono B0.out.size)
      replace q0 := (hbb.cell (p := ⟨b, _, none⟩) hbw).trans q0
      have hbw2 : b < wr.heap.size := Nat.lt_of_lt_of_le hbw hbb.size
      have YB := Y.out.below hb
      obtain ⟨y0, y1, y2⟩ := Bx.four' YB
      have hyl := YB.lt
      have hcw := Lib.hid (hcall.out wr)
      replace hrow := Lib.hid hrow
      replace hx := Lib.hid hx
      have hbs := Lib.hid hb.size
      obtain ⟨r1, r2, r3⟩ := r
      simp only at q0
      clear hbb YB hbw
      go_wp2_with fail
      go_at_call 67
      (with_reducible refine hcw.out.mono ?_)
      rintro e w2 ⟨rfl, hb2⟩
      have own1 := Lib.hid (hown.out.below hb2)
      have bW := Lib.hid (hb.trans (hb2.mono hbs.out))
      clear hb2 hcw q0 y0 y1 y2 hyl hbw2
      by_cases hkk : k = kk
      · have hkk' : ((k : Int) == (kk : Int)) = true := by rw [beq_iff_eq]; omega
        have hsl := Lib.hid (sl_oneR w2 ⟨A', n', c'⟩ _ rfl)
        have own2 := Lib.hid (own1.out.below ((Below.refl _ _).alloc (Nat.le_refl _) (.cells #[.slice A' n' c'] 55)))
        have hn1 : Hid ((rs.map rcell).length + [rcell ⟨A', n', c'⟩].length ≤ 1000000) := Lib.hid (by rw [List.length_map]; simp; omega)
        have hB2 : Hid (w0.heap.size ≤ (w2.alloc (.cells #[.slice A' n' c'] 55)).heap.size) := Lib.hid (by have := bW.out.size; simp; omega)
        have bW2 := Lib.hid (bW.out.alloc bW.out.size (.cells #[.slice A' n' c'] 55))
        go_wp2_with (at_builtin; (refine wpList_append_sl rfl (.tmp 27) (.tmp 29) 22 rfl elS (by rfl) own2.out (by rfl) (by rfl) hsl.out (whole_r [⟨A', n', c'⟩]) (fun h => by cases h) hn1.out hB2.out ?_); intro v' w3 own3 grow3 _)
        have B3 := bW2.out.grown grow3 bW2.out.size (fun j hj => (hown.out.lt j hj).1)
        go_roundw
        case rel =>
          refine ⟨k + 1, rs ++ [⟨A', n', c'⟩], by omega, by rw [List.length_append]; simp; omega, by go_num, by unfold OwnR; rw [List.map_append]; exact own3, fun j r xs hj hxs => ?_, B3⟩
          by_cases hjk : j < rs.length
          · rw [List.getElem?_append_left hjk] at hj
            exact hrows.out j r xs hj hxs
          · rw [List.getElem?_append_right (by omega)] at hj
            have hj0 : j - rs.length = 0 := by
              have := (List.getElem?_eq_some_iff.1 hj).1
              simp at this; omega
            rw [hj0] at hj
            obtain rfl : (⟨A', n', c'⟩ : Sla) = r := by simpa using hj
            obtain rfl : j = k := by omega
            exact (by subst hkk; rw [List.getElem?_set, if_pos rfl, if_pos hlk] at hxs; obtain rfl := Option.some.inj hxs; exact HR.out)
        case measure => simp [intOf]; omega
      · have hkk' : ((k : Int) == (kk : Int)) = false := by rw [beq_eq_false_iff_ne]; omega
        have hsl := Lib.hid (sl_oneR w2 ⟨r1, r2, r3⟩ _ rfl)
        have own2 := Lib.hid (own1.out.below ((Below.refl _ _).alloc (Nat.le_refl _) (.cells #[.slice r1 r2 r3] 55)))
        have hn1 : Hid ((rs.map rcell).length + [rcell ⟨r1, r2, r3⟩].length ≤ 1000000) := Lib.hid (by rw [List.length_map]; simp; omega)
        have hB2 : Hid (w0.heap.size ≤ (w2.alloc (.cells #[.slice r1 r2 r3] 55)).heap.size) := Lib.hid (by have := bW.out.size; simp; omega)
        have bW2 := Lib.hid (bW.out.alloc bW.out.size (.cells #[.slice r1 r2 r3] 55))
        go_wp2_with (at_builtin; (refine wpList_append_sl rfl (.tmp 27) (.tmp 29) 22 rfl elS (by rfl) own2.out (by rfl) (by rfl) hsl.out (whole_r [⟨r1, r2, r3⟩]) (fun h => by cases h) hn1.out hB2.out ?_); intro v' w3 own3 grow3 _)
        have B3 := bW2.out.grown grow3 bW2.out.size (fun j hj => (hown.out.lt j hj).1)
        go_roundw
        case rel =>
          refine ⟨k + 1, rs ++ [⟨r1, r2, r3⟩], by omega, by rw [List.length_append]; simp; omega, by go_num, by unfold OwnR; rw [List.map_append]; exact own3, fun j r xs hj hxs => ?_, B3⟩
          by_cases hjk : j < rs.length
          · rw [List.getElem?_append_left hjk] at hj
            exact hrows.out j r xs hj hxs
          · rw [List.getElem?_append_right (by omega)] at hj
            have hj0 : j - rs.length = 0 := by
              have := (List.getElem?_eq_some_iff.1 hj).1
              simp at this; omega
            rw [hj0] at hj
            obtain rfl : (⟨r1, r2, r3⟩ : Sla) = r := by simpa using hj
            obtain rfl : j = k := by omega
            exact (by rw [List.getElem?_set, if_neg (fun e => hkk e.symm), hx.out] at hxs; obtain rfl := Option.some.inj hxs; exact hrow.out)
        case measure => simp [intOf]; omega
    · obtain rfl : k = bs.length := by omega
      obtain ⟨A9, c9, hv, _⟩ := hown.out.form
      rw [List.length_map, hrs] at hv
      subst hv
      have XB := X.out.below hb
      have YB := Y.out.below hb
      obtain ⟨x0, x1, x2⟩ := Bx.four' XB
      obtain ⟨y0, y1, y2⟩ := Bx.four' YB
      have f0 := YB.f 0
      have e0 := XB.f 0
      have e1 := XB.f 1
      have e2 := XB.f 2
      have hz1 : w.heap.size < wr.heap.size := YB.lt
      have hz2 := Lib.hid XB.lt
      have BF := Lib.hid (bt B0.out hb)
      have hfin := Lib.hid fun v1 v2 v3 v4 => ((((hown.out.set hzy 0 v1).set (q := w.heap.size + 1) hz0.out 0 v2).set (q := w.heap.size + 1) hz0.out 1 v3).set (q := w.heap.size + 1) hz0.out 2 v4)
      have hlen : Hid (rs.length = (bs.set kk l).length) := Lib.hid (by rw [List.length_set]; exact hrs)
      have BG := Lib.hid fun v1 v2 v3 v4 => (((BF.out.setCell (p := ⟨w.heap.size, 0, none⟩) (Nat.le_refl _) v1).setCell (p := ⟨w.heap.size + 1, 0, none⟩) (Nat.le_succ _) v2).setCell (p := ⟨w.heap.size + 1, 1, none⟩) (Nat.le_succ _) v3).setCell (p := ⟨w.heap.size + 1, 2, none⟩) (Nat.le_succ _) v4
      clear XB YB X Y hown B0 hb hrs
      go_wp2_with fail
      refine bodyPost_ret (v := tbv (.slice A9 bs.length c9) s ag) (by simp [results, Try.results55, go_sem, x0, x1, x2]) rfl ⟨A9, bs.length, c9, rfl, own_tabR (hfin.out _ _ _ _) hlen.out (fun j r xs h1 h2 => (hrows.out j r xs h1 h2).below (BG.out _ _ _ _)), BG.out _ _ _ _⟩
end Go.Proofs.Ytnghilcjecjljaa.FdbP

/-
  Contracts of footwayref08: New, Find.
-/
namespace Go.Proofs.Ytnghilcjecjljaa.FdbP
open Go.RowKit Go.Sort Go.Proofs.Ytnghilcjecjljaa.SliceP Go.Proofs.Ytnghilcjecjljaa.MacP
set_option linter.unusedVariables false
set_option maxRecDepth 100000

def nilR : Sla := ⟨none, 0, 0⟩
set_option maxHeartbeats 8000000 in
theorem r_new (n s ag : Int) (w : World) (hn : numB n = true) : Calls Try.prog 17 #[.int .i64 n, .int .i64 s, .int .i64 ag] w (RetT w (List.replicate n.toNat []) s ag) := by
  have hnb := numB_cases hn
  obtain ⟨m, rfl⟩ : ∃ m : Nat, n = (m : Int) := ⟨n.toNat, by omega⟩
  have hm : m ≤ 16 := by omega
  rw [Int.toNat_natCast]
  obtain ⟨w0, hw0⟩ : ∃ w0, w0 = (w.alloc (tObj (.slice none 0 0) 0 0)).alloc (tObj (.slice none 0 0) s ag) := ⟨_, rfl⟩
  have B0 := Lib.hid (show Below w.heap.size w w0 by rw [hw0]; exact ((Below.refl _ _).alloc (Nat.le_refl _) _).alloc (by simp) _)
  have X := Lib.hid (show Bx w0 w.heap.size TT #[.slice none 0 0, .int .i64 0, .int .i64 0] by rw [hw0]; exact (Bx.new w _ _ rfl).alloc _)
  have Y := Lib.hid (show Bx w0 (w.heap.size + 1) TT #[.slice none 0 0, .int .i64 s, .int .i64 ag] by rw [hw0]; exact Bx.new _ _ _ (by simp))
  have hz0 := Lib.hid Y.out.lt
  clear hn hnb
  go_enter Try.func17, Try.ntmps17
  go_wp2_with fail
  rw [← hw0]
  clear hw0
  obtain ⟨q, hq⟩ : ∃ q, w.heap.size + 1 = q := ⟨_, rfl⟩
  rw [hq] at Y hz0 ⊢
  replace hq := Lib.hid hq
  go_loopw [8] (fun i wr => ∃ (k : Nat) (v : Value), k ≤ m ∧ i = .int .i64 k ∧ Bx wr q TT #[v, .int .i64 s, .int .i64 ag] ∧ Bx wr w.heap.size TT #[.slice none 0 0, .int .i64 0, .int .i64 0] ∧ OwnR wr w0.heap.size v (List.replicate k nilR) ∧ Below w.heap.size w wr ∧ w0.heap.size ≤ wr.heap.size) (fun i _ => m - (intOf i).toNat)
  case atStart => exact ⟨0, _, by omega, rfl, Y.out, X.out, Own.nil _ _ _ _, B0.out, Nat.le_refl _⟩
  case round =>
    clear X Y B0
    obtain ⟨k, v, hk, rfl, Y, X, hown, hb, hsz⟩ := hrel
    obtain ⟨y0, y1, y2⟩ := Bx.four' Y
    have g0 := Y.f 0
    have hyl := Y.lt
    replace Y := Lib.hid Y
    replace X := Lib.hid X
    replace hown := Lib.hid hown
    replace hb := Lib.hid hb
    by_cases hkm : k < m
    · have hsl := Lib.hid (sl_oneR wr nilR _ rfl)
      have own2 := Lib.hid (hown.out.below ((Below.refl _ _).alloc (Nat.le_refl _) (.cells #[.slice none 0 0] 55)))
      have hn1 : Hid (((List.replicate k nilR).map rcell).length + [rcell nilR].length ≤ 1000000) := Lib.hid (by simp; omega)
      have hB2 : Hid (w0.heap.size ≤ (wr.alloc (.cells #[.slice none 0 0] 55)).heap.size) := Lib.hid (by simp; omega)
      have Y2 := Lib.hid (Y.out.alloc (.cells #[.slice none 0 0] 55))
      have X2 := Lib.hid (X.out.alloc (.cells #[.slice none 0 0] 55))
      have bW2 := Lib.hid (hb.out.alloc hb.out.size (.cells #[.slice none 0 0] 55))
      have hq1 : Hid (q < w0.heap.size) := hz0
      have hsz' := Lib.hid hsz
      clear hsz
      go_wp2_with (at_builtin; (refine wpList_append_sl rfl (.tmp 18) (.tmp 19) 22 rfl elS (by rfl) own2.out (by rfl) (by rfl) hsl.out (whole_r [nilR]) (fun h => by cases h) hn1.out hB2.out ?_); intro v' w3 own3 grow3 _; obtain ⟨A8, c8, hv8, _⟩ := own3.form; generalize hn8 : ((List.replicate k nilR).map rcell ++ [rcell nilR]).length = n8 at hv8; subst hv8; have hne : ∀ b, b < w0.heap.size → some b ≠ v.ownBlock := (fun b hb e => by have := (hown.out.lt b e.symm).1; omega); have Y3 := Y2.out.grown grow3 (hne q hq1.out); have X3 := X2.out.grown grow3 (hne w.heap.size (by have := hq.out; have := hq1.out; omega)); have e0 := Y3.c (i := 0) rfl; have g1 := Y3.f 0; have hl3 := Y3.lt)
      have B3 := bW2.out.grown grow3 bW2.out.size (fun j hj => by have := (hown.out.lt j hj).1; have := hq.out; have := hq1.out; omega)
      have hs3 := grow3.size
      go_roundw
      case rel => exact ⟨k + 1, _, by omega, by go_num, Y3.set 0 _, X3.other (by have := hq.out; omega) 0 _, OwnR.set (by rw [List.replicate_succ']; unfold OwnR; rw [List.map_append]; exact own3) hq1.out 0 _, B3.setCell (p := ⟨q, 0, none⟩) (by have := hq.out; show w.heap.size ≤ q; omega) _, by simp at hs3 ⊢; have := hsz'.out; omega⟩
      case measure => simp [intOf]; omega
    · obtain rfl : k = m := by omega
      obtain ⟨A9, c9, hv, _⟩ := hown.out.form
      rw [List.length_map, List.length_replicate] at hv
      subst hv
      obtain ⟨x0, x1, x2⟩ := Bx.four' X.out
      have e0 := X.out.f 0
      have e1 := X.out.f 1
      have e2 := X.out.f 2
      have hxl := X.out.lt
      have hq1 : w.heap.size < w0.heap.size := by have := hq.out; have := hz0.out; omega
      have hfin := Lib.hid fun v2 v3 v4 => (((hown.out.set (q := w.heap.size) hq1 0 v2).set (q := w.heap.size) hq1 1 v3).set (q := w.heap.size) hq1 2 v4)
      have BG := Lib.hid fun v2 v3 v4 => below3 hb.out (Nat.le_refl _) v2 v3 v4
      clear X Y hown hb hsz
      go_wp2_with fail
      refine bodyPost_ret (v := tbv (.slice A9 k c9) s ag) (by simp [results, Try.results17, go_sem, x0, x1, x2]) rfl ⟨A9, k, c9, rfl, own_tabR (hfin.out _ _ _) (by simp) (fun j r xs h1 h2 => ?_), BG.out _ _ _⟩
      rw [List.getElem?_replicate] at h1 h2
      split at h1
      · rename_i hj
        rw [if_pos hj] at h2
        obtain rfl := Option.some.inj h1
        obtain rfl := Option.some.inj h2
        exact RowE.empty _
      · cases h1
def findW (oe : Option E) (ag now : Int) : Int := match oe with
  | none => -1
  | some x => if oldW ag now x then -1 else x.port
set_option maxHeartbeats 8000000 in
theorem r_find {A : Option Addr} {n c : Nat} {bs : List (List E)} (s ag a now : Int) {w : World} (ht : TabS w A n c bs) (hs : Small bs) (hn : numB (bs.length : Int) = true) (hm : macB a = true) :
    Calls Try.prog 20 #[tbv (.slice A n c) s ag, .int .i64 a, .int .i64 now] w fun e w' => e = .returned (.int .i64 (findW (entO bs a) ag now)) ∧ Below w.heap.size w w' := by
  obtain ⟨kk, hk1, hk2, hk3⟩ := buck_at (a := a) hn
  have hbl := hs.2 _ (List.mem_of_getElem? hk3)
  obtain ⟨w0, hw0⟩ : ∃ w0, w0 = w.alloc (tObj (.slice A n c) s ag) := ⟨_, rfl⟩
  have B0 : Below w.heap.size w w0 := by rw [hw0]; exact (Below.refl _ _).alloc (Nat.le_refl _) _
  have Y := Lib.hid (show Bx w0 w.heap.size TT #[.slice A n c, .int .i64 s, .int .i64 ag] by rw [hw0]; exact Bx.new w _ _ rfl)
  have hb1 := r_buck s ag a (ht.below B0) hn hm
  obtain ⟨l, hl⟩ : ∃ l, buck bs a = l := ⟨_, rfl⟩
  have he : entO bs a = findE l a := by unfold entO; rw [hl]
  rw [he]
  rw [hl] at hbl hb1
  replace hb1 := Lib.hid hb1
  clear he hl
  clear ht hs hn hm hk1 hk2 hk3
  go_enter Try.func20, Try.ntmps20
  go_wp2_with fail
  rw [← hw0]
  clear hw0
  go_at_call 47
  (with_reducible refine hb1.out.mono ?_)
  rintro e w1 ⟨A1, n1, c1, rfl, R1, hb2⟩
  have Y1 := Lib.hid (Y.out.below hb2)
  have B1 := Lib.hid (bt B0 hb2)
  replace R1 := Lib.hid R1
  clear hb1 hb2 Y B0
  go_wp2_with fail
  go_at_call 42
  (with_reducible refine (r_place R1.out hbl a).mono ?_)
  rintro e w2 ⟨rfl, hb2⟩
  have Y2 := Lib.hid (Y1.out.below hb2)
  have B2 := Lib.hid (bt B1.out hb2)
  have R2 := Lib.hid (R1.out.below hb2)
  clear hb2 Y1 B1 R1
  have hlen := Lib.hid R2.out.len
  have hcap := R2.out.cap
  have hyl := Y2.out.lt
  cases ho : findE l a with
  | none =>
    rw [idx_find_none ho]
    obtain ⟨y0, y1, y2⟩ := Bx.four' Y2.out
    have K0 := cell_regrown y0
    have K1 := cell_regrown y1
    have K2 := cell_regrown y2
    replace ho := Lib.hid ho
    clear y0 y1 y2
    go_wp2_with fail
    refine wp_region_quiet_below (by kernel_rfl) (by kernel_rfl) ?_
    repeat (first | go_big_quiet_step (fail) | quiet_step (fail))
    refine wpQuiet_nil ?_
    intro _ hw'
    obtain ⟨⟨dq, osq⟩, hw''⟩ := hw'
    subst hw''
    have bq := below_regrown w2 dq osq
    clear K0 K1 K2
    generalize Go.Sort.grow (redrawn w2 dq) osq = W1 at *
    have B3 := bt B2.out bq
    clear bq
    go_wp2_with fail
    go_ret
    exact ⟨by rw [ho.out]; rfl, B3⟩
  | some x =>
    obtain ⟨k, hk, hx⟩ := idx_find_some ho
    rw [hk]
    have hkl : k < l.length := (List.getElem?_eq_some_iff.1 hx).1
    obtain ⟨b, o, rfl, hbw, x0, x1, x2, x3⟩ := RowE.at_ R2.out hx
    have hkn : (k : Int) < (n1 : Int) := by have := hlen.out; omega
    have hk0 : (0 : Int) ≤ (k : Int) := by omega
    have hkd : decide ((k : Int) < 0) = false := by rw [decide_eq_false_iff_not]; omega
    obtain ⟨y0, y1, y2⟩ := Bx.four' Y2.out
    have K0 := cell_regrown y0
    have K1 := cell_regrown y1
    have K2 := cell_regrown y2
    have L0 := cell_regrown x0
    have L1 := cell_regrown x1
    have L2 := cell_regrown x2
    have L3 := cell_regrown x3
    have cC0 := fun (d : Nat) (os : Array Obj) => Calls.regrown_of (r_old x (.slice A n c) s ag now (Go.Sort.grow (redrawn w2 d) os))
    have hfw : findW (some x) ag now = if oldW ag now x then -1 else x.port := rfl
    generalize oldW ag now x = od at cC0 hfw
    replace hfw := Lib.hid hfw
    replace ho := Lib.hid ho
    clear y0 y1 y2 hk hx x0 x2 x3 R2
    go_wp2_with fail
    refine wp_region_quiet_below (by kernel_rfl) (by kernel_rfl) ?_
    repeat (first | go_big_quiet_step (with_reducible exact cC0 _ _) | quiet_step (with_reducible exact cC0 _ _))
    refine wpQuiet_nil ?_
    intro _ hw'
    obtain ⟨⟨dq, osq⟩, hw''⟩ := hw'
    subst hw''
    have bq := below_regrown w2 dq osq
    have x1' := (bq.cell (p := ⟨b, _, none⟩) hbw).trans x1
    have hbw2 := Nat.lt_of_lt_of_le hbw bq.size
    clear K0 K1 K2 L0 L1 L2 L3 cC0 x1 hbw
    generalize Go.Sort.grow (redrawn w2 dq) osq = W1 at *
    have B3 := bt B2.out bq
    clear bq
    cases od
    all_goals
      go_wp2_with fail
      go_ret
      exact ⟨by rw [ho.out, hfw.out]; rfl, B3⟩
end Go.Proofs.Ytnghilcjecjljaa.FdbP

/-
  Contract of footwayref08.Right.
-/
namespace Go.Proofs.Ytnghilcjecjljaa.FdbP
open Go.RowKit Go.Sort Go.Proofs.Ytnghilcjecjljaa.SliceP Go.Proofs.Ytnghilcjecjljaa.MacP
set_option linter.unusedVariables false
set_option maxRecDepth 100000

theorem idx_ge {l : List E} {a : Int} {y : E} (h : findE l a = some y) : ∃ j : Nat, idxI l (isM a) = (j : Int) := by
  obtain ⟨k, hk, _⟩ := idx_find_some h
  exact ⟨k, hk⟩
set_option maxHeartbeats 16000000 in
theorem r_right {A : Option Addr} {n c : Nat} {bs : List (List E)} (s ag : Int) {w : World} (ht : TabS w A n c bs) (hs : Small bs) (r : Bool) (hr : rightT bs s ag = r) :
    Calls Try.prog 13 #[tbv (.slice A n c) s ag] w (IsB w r) := by
  obtain rfl := ht.len
  have hsz := Lib.hid fun W => r_sizes_any bs.length s ag W
  obtain ⟨w0, hw0⟩ : ∃ w0, w0 = w.alloc (tObj (.slice A bs.length c) s ag) := ⟨_, rfl⟩
  have B0 := Lib.hid (show Below w.heap.size w w0 by rw [hw0]; exact (Below.refl _ _).alloc (Nat.le_refl _) _)
  have Y := Lib.hid (show Bx w0 w.heap.size TT #[.slice A bs.length c, .int .i64 s, .int .i64 ag] by rw [hw0]; exact Bx.new w _ _ rfl)
  have hz0 : w.heap.size < w0.heap.size := Y.out.lt
  have ht0 := Lib.hid ht
  have hs1 := hs.1
  have hs2 := Lib.hid hs.2
  clear ht hs
  cases hsb : sizesB bs.length s ag with
  | false =>
    have hr' : r = false := by rw [← hr]; unfold rightT; rw [hsb]; rfl
    subst hr'
    rw [hsb] at hsz
    clear hr
    go_enter Try.func13, Try.ntmps13
    go_wp2_with fail
    rw [← hw0]
    clear hw0
    go_at_call 15
    (with_reducible refine (hsz.out _).mono ?_)
    rintro e w1 ⟨rfl, rfl⟩
    go_wp2_with fail
    go_ret
    exact ⟨rfl, B0.out⟩
  | true =>
    have hr' : r = bucketsOk bs s := by rw [← hr]; unfold rightT; rw [hsb]; rfl
    have hn := Lib.hid (sizesB_num hsb)
    rw [hsb] at hsz
    replace hsb := Lib.hid hsb
    replace hr' := Lib.hid hr'
    clear hr
    go_enter Try.func13, Try.ntmps13
    go_wp2_with fail
    rw [← hw0]
    clear hw0
    go_at_call 15
    (with_reducible refine (hsz.out _).mono ?_)
    rintro e w1 ⟨rfl, rfl⟩
    obtain ⟨y0, y1, y2⟩ := Bx.four' Y.out
    go_wp2_with fail
    clear y0 y1 y2
    go_loopw [19] (fun i wr => ∃ k : Nat, k ≤ bs.length ∧ i = .int .i64 k ∧ (∀ j l, j < k → bs[j]? = some l → bucketOk bs.length s j l = true) ∧ Below w0.heap.size w0 wr) (fun i _ => bs.length - (intOf i).toNat)
    case atStart => exact ⟨0, by omega, rfl, (fun j l hj => by omega), Below.refl _ _⟩
    case round =>
      obtain ⟨k, hk, rfl, hall, hb⟩ := hrel
      replace hall := Lib.hid hall
      have Br := bt B0.out hb
      have YB := Y.out.below hb
      obtain ⟨y0, y1, y2⟩ := Bx.four' YB
      have hyl := YB.lt
      replace YB := Lib.hid YB
      by_cases hlt : k < bs.length
      · obtain ⟨l, hx⟩ : ∃ x, bs[k]? = some x := ⟨_, List.getElem?_eq_getElem hlt⟩
        have hll := hs2.out l (List.mem_of_getElem? hx)
        obtain ⟨b, o, rr, rfl, hbw, q0, hrow⟩ := (ht0.out.below B0.out).row hx
        obtain ⟨r1, r2, r3⟩ := rr
        simp only at q0 hrow
        replace q0 := (hb.cell (p := ⟨b, _, none⟩) hbw).trans q0
        replace hbw := Nat.lt_of_lt_of_le hbw hb.size
        obtain rfl := hrow.len
        have HR := Lib.hid hrow
        have hno : bucketOk bs.length s k l = false → bucketsOk bs s = false := fun h => bucketsOk_no hx h
        replace hno := Lib.hid hno
        replace hx := Lib.hid hx
        replace Br := Lib.hid Br
        replace hb := Lib.hid hb
        clear hrow
        by_cases hls : (l.length : Int) ≤ s
        · have hls' : decide (s < (l.length : Int)) = false := by simpa using hls
          have hls3 := Lib.hid hls
          clear hls
          go_wp2_with fail
          clear q0 y0 y1 y2 hls' hbw hyl
          go_loopw [31] (fun i wr2 => ∃ i' : Nat, i' ≤ l.length ∧ i = .int .i64 i' ∧ (∀ j, j < i' → entOk bs.length k l j = true) ∧ Below w0.heap.size w0 wr2) (fun i _ => l.length - (intOf i).toNat)
          case atStart => exact ⟨0, by omega, rfl, (fun j hj => by omega), hb.out⟩
          case round =>
            clear hb Br YB
            obtain ⟨i, hi, rfl, hal, hb⟩ := hrel
            replace hal := Lib.hid hal
            have Br := bt B0.out hb
            by_cases hil : i < l.length
            · obtain ⟨x, hxi⟩ : ∃ x, l[i]? = some x := ⟨_, List.getElem?_eq_getElem hil⟩
              obtain ⟨b', o', rfl, hbw', x0, x1, x2, x3⟩ := RowE.at_ (HR.out.below hb) hxi
              obtain ⟨W, hW⟩ : ∃ W, W = wr.alloc (eObj x.mac x.port x.seen x.st) := ⟨_, rfl⟩
              have bWr : Below wr.heap.size wr W := by rw [hW]; exact (Below.refl _ _).alloc (Nat.le_refl _) _
              have XW : Bx W wr.heap.size 57 #[.int .i64 x.mac, .int .i64 x.port, .int .i64 x.seen, .bool x.st] := by rw [hW]; exact Bx.new _ _ _ rfl
              have bW0 := Lib.hid (hb.trans (bWr.mono hb.size))
              have BW := Lib.hid (bt Br bWr)
              have RT := Lib.hid (((HR.out.below hb).below bWr).take i (Nat.le_of_lt hil))
              have hicl : i ≤ r3 := by have := (HR.out).cap; omega
              have K0 := cell_regrown (XW.c (i := 0) rfl)
              have K1 := cell_regrown (XW.c (i := 1) rfl)
              have K2 := cell_regrown (XW.c (i := 2) rfl)
              have K3 := cell_regrown (XW.c (i := 3) rfl)
              have K4 := cell_regrown ((Y.out.below bW0.out).c (i := 0) rfl)
              have hent : entOk bs.length k l i = ((findE (l.take i) x.mac).isNone && (rightE x && (bucketI x.mac bs.length == (k : Int)))) := by unfold entOk; rw [hxi]
              have cC0 := fun (d : Nat) (os : Array Obj) => Calls.regrown_of (r_entry x k bs.length (Go.Sort.grow (redrawn W d) os) hn.out)
              have cC1 := fun (d : Nat) (os : Array Obj) => Calls.regrown_of (r_place (RT.out.below (below_regrown W d os)) (by rw [List.length_take]; omega) x.mac)
              have hent2 : entryB x k bs.length = (rightE x && (bucketI x.mac bs.length == (k : Int))) := rfl
              rw [← hent2] at hent
              have hbs : entOk bs.length k l i = false → bucketOk bs.length s k l = false := fun h => bucketOk_no hil h
              replace hbs := Lib.hid hbs
              replace hxi := Lib.hid hxi
              clear hent2 bWr XW
              go_wp2_with fail
              rw [← hW]
              clear hW x0 x1 x2 x3 hb Br
              cases he : entryB x k bs.length with
              | false =>
                rw [he] at cC0 hent
                replace he := Lib.hid he
                have hbad := Lib.hid (hno.out (hbs.out (by rw [hent, Bool.and_false])))
                clear hent
                refine wp_region_quiet_below (by kernel_rfl) (by kernel_rfl) ?_
                repeat (first | go_big_quiet_step (first | with_reducible exact cC0 _ _ | with_reducible exact cC1 _ _) | quiet_step (first | with_reducible exact cC0 _ _ | with_reducible exact cC1 _ _))
                refine wpQuiet_nil ?_
                intro _ hw'
                obtain ⟨⟨dq, osq⟩, hw''⟩ := hw'
                subst hw''
                have bq := below_regrown W dq osq
                clear K0 K1 K2 K3 K4 cC0 cC1
                generalize Go.Sort.grow (redrawn W dq) osq = W1 at *
                have B1 := Lib.hid (bt BW.out bq)
                have b1 := Lib.hid (bW0.out.trans (bq.mono bW0.out.size))
                clear bq
                go_wp2_with fail
                go_ret
                exact ⟨by rw [hr'.out, hbad.out]; rfl, B1.out⟩
              | true =>
                rw [he] at cC0 hent
                replace he := Lib.hid he
                cases ho : findE (l.take i) x.mac with
                | some y =>
                  obtain ⟨j, hj⟩ := idx_ge ho
                  rw [hj] at cC1
                  rw [ho] at hent
                  have hj0 : (0 : Int) ≤ (j : Int) := by omega
                  have hbad := Lib.hid (hno.out (hbs.out (by rw [hent]; rfl)))
                  replace ho := Lib.hid ho
                  replace hj := Lib.hid hj
                  clear hent
                  refine wp_region_quiet_below (by kernel_rfl) (by kernel_rfl) ?_
                  repeat (first | go_big_quiet_step (first | with_reducible exact cC0 _ _ | with_reducible exact cC1 _ _) | quiet_step (first | with_reducible exact cC0 _ _ | with_reducible exact cC1 _ _))
                  refine wpQuiet_nil ?_
                  intro _ hw'
                  obtain ⟨⟨dq, osq⟩, hw''⟩ := hw'
                  subst hw''
                  have bq := below_regrown W dq osq
                  clear K0 K1 K2 K3 K4 cC0 cC1
                  generalize Go.Sort.grow (redrawn W dq) osq = W1 at *
                  have B1 := Lib.hid (bt BW.out bq)
                  have b1 := Lib.hid (bW0.out.trans (bq.mono bW0.out.size))
                  clear bq
                  go_wp2_with fail
                  go_ret
                  exact ⟨by rw [hr'.out, hbad.out]; rfl, B1.out⟩
                | none =>
                  rw [idx_find_none ho] at cC1
                  rw [ho] at hent
                  replace ho := Lib.hid ho
                  replace hent := Lib.hid (show entOk bs.length k l i = true by rw [hent]; rfl)
                  refine wp_region_quiet_below (by kernel_rfl) (by kernel_rfl) ?_
                  repeat (first | go_big_quiet_step (first | with_reducible exact cC0 _ _ | with_reducible exact cC1 _ _) | quiet_step (first | with_reducible exact cC0 _ _ | with_reducible exact cC1 _ _))
                  refine wpQuiet_nil ?_
                  intro _ hw'
                  obtain ⟨⟨dq, osq⟩, hw''⟩ := hw'
                  subst hw''
                  have bq := below_regrown W dq osq
                  clear K0 K1 K2 K3 K4 cC0 cC1
                  generalize Go.Sort.grow (redrawn W dq) osq = W1 at *
                  have B1 := Lib.hid (bt BW.out bq)
                  have b1 := Lib.hid (bW0.out.trans (bq.mono bW0.out.size))
                  clear bq
                  go_wp2_with fail
                  go_roundw
                  case rel => exact ⟨i + 1, by omega, by go_num, (fun j hj => by
                    by_cases hji : j = i
                    · subst hji; exact hent.out
                    · exact hal.out j (by omega)), b1.out⟩
                  case measure => simp [intOf]; omega
            · obtain rfl : i = l.length := by omega
              have hbk := Lib.hid (bucketOk_yes hls3.out hal.out)
              have hsz9 := Lib.hid hb
              go_wp2_with fail
              go_roundw
              case rel => exact ⟨k + 1, by omega, by go_num, (fun j l' hj hl' => by
                by_cases hjk : j = k
                · subst hjk
                  rw [hx.out] at hl'
                  obtain rfl := Option.some.inj hl'
                  exact hbk.out
                · exact hall.out j l' (by omega) hl'), hsz9.out⟩
              case measure => simp [intOf]; omega
        · have hls' : decide (s < (l.length : Int)) = true := by simp; omega
          have hbad := Lib.hid (hno.out (bucketOk_long hls))
          have hls4 : s < (l.length : Int) := by omega
          go_wp2_with fail
          go_ret
          exact ⟨by rw [hr'.out, hbad.out]; rfl, Br.out⟩
      · obtain rfl : k = bs.length := by omega
        go_wp2_with fail
        go_ret
        exact ⟨by rw [hr'.out, bucketsOk_yes fun j l hj => hall.out j l (List.getElem?_eq_some_iff.1 hj).1 hj]; rfl, Br⟩
end Go.Proofs.Ytnghilcjecjljaa.FdbP

/-
  Tables and rows apart from some blocks; contract of footwayref08.with over them.
-/
namespace Go.Proofs.Ytnghilcjecjljaa.FdbP
open Go.RowKit Go.Sort Go.Proofs.Ytnghilcjecjljaa.SliceP Go.Proofs.Ytnghilcjecjljaa.MacP
set_option linter.unusedVariables false
set_option maxRecDepth 100000

/-- A row that lies in no block of S. -/
structure RowS (S : Nat → Prop) (w : World) (A : Option Addr) (n c : Nat) (l : List E) : Prop where
  row : RowE w A n c l
  off : l ≠ [] → ∀ b o, A = some ⟨b, o, none⟩ → ¬ S b
structure TabO (S : Nat → Prop) (w : World) (A : Option Addr) (n c : Nat) (bs : List (List E)) : Prop where
  len : n = bs.length
  cap : n ≤ c
  nil : A = none → c = 0
  at_ : ∀ k xs, bs[k]? = some xs → ∃ (b o : Nat) (r : Sla), A = some ⟨b, o, none⟩ ∧ ¬ S b ∧ b < w.heap.size ∧ w.cell? ⟨b, o + k, none⟩ = some (.slice r.1 r.2.1 r.2.2) ∧ RowS S w r.1 r.2.1 r.2.2 xs
def OffS (S : Nat → Prop) (w w' : World) : Prop := w.heap.size ≤ w'.heap.size ∧ ∀ p : Addr, p.block < w.heap.size → ¬ S p.block → w'.cell? p = w.cell? p
section
variable {S T : Nat → Prop} {w w' w2 : World} {A : Option Addr} {n c : Nat} {l : List E} {bs : List (List E)}
theorem OffS.below (h : Below w.heap.size w w') : OffS S w w' := ⟨h.size, fun p hp _ => h.cell hp⟩
theorem OffS.trans (h : OffS S w w') (k : OffS S w' w2) : OffS S w w2 := ⟨Nat.le_trans h.1 k.1, fun p hp hq => (k.2 p (Nat.lt_of_lt_of_le hp h.1) hq).trans (h.2 p hp hq)⟩
theorem OffS.three {q : Nat} (hq : S q) (w : World) (v0 v1 v2 : Value) : OffS S w (((w.setCell ⟨q, 0, none⟩ v0).setCell ⟨q, 1, none⟩ v1).setCell ⟨q, 2, none⟩ v2) := by
  refine ⟨by simp, fun p hp hs => ?_⟩
  have hne : p.block ≠ q := by rintro rfl; exact hs hq
  rw [World.cell?_setCell_other _ _ _ _ (by rintro rfl; exact hne rfl), World.cell?_setCell_other _ _ _ _ (by rintro rfl; exact hne rfl), World.cell?_setCell_other _ _ _ _ (by rintro rfl; exact hne rfl)]
theorem OffS.grown {b : Nat} (hb : S b) (hg : w.grownBy w' (some b)) : OffS S w w' := ⟨hg.size, fun p hp hs => by
  have hne : p.block ≠ b := by rintro rfl; exact hs hb
  obtain ⟨pb, po, sp⟩ := p
  have := hg.block pb hp (fun e => hne (Option.some.inj e))
  unfold World.cell?
  rw [this]⟩
theorem RowS.keep (h : RowS S w A n c l) (k : OffS S w w') : RowS S w' A n c l := by
  refine ⟨⟨h.row.len, fun hn => ?_, h.row.cap, h.row.nil⟩, h.off⟩
  obtain ⟨b, o, e, hb, hx⟩ := h.row.sl hn
  have hl : l ≠ [] := by rintro rfl; exact hn rfl
  have hs := h.off hl b o e
  exact ⟨b, o, e, Nat.lt_of_lt_of_le hb k.1, fun i cs hi j v hj => (k.2 ⟨b, _, none⟩ hb hs).trans (hx i cs hi j v hj)⟩
theorem RowS.below (h : RowS S w A n c l) (hb : Below w.heap.size w w') : RowS S w' A n c l := h.keep (OffS.below hb)
theorem TabO.keep (h : TabO S w A n c bs) (k : OffS S w w') : TabO S w' A n c bs := ⟨h.len, h.cap, h.nil, fun i xs hi => by
  obtain ⟨b, o, r, h1, h2, h3, h4, h5⟩ := h.at_ i xs hi
  exact ⟨b, o, r, h1, h2, Nat.lt_of_lt_of_le h3 k.1, (k.2 ⟨b, _, none⟩ h3 h2).trans h4, h5.keep k⟩⟩
theorem TabO.below (h : TabO S w A n c bs) (hb : Below w.heap.size w w') : TabO S w' A n c bs := h.keep (OffS.below hb)
theorem TabO.tab (h : TabO S w A n c bs) : TabS w A n c bs := ⟨h.len, h.cap, h.nil, fun i xs hi => by
  obtain ⟨b, o, r, h1, h2, h3, h4, h5⟩ := h.at_ i xs hi
  exact ⟨b, o, r.1, r.2.1, r.2.2, h1, h3, h4, h5.row⟩⟩
theorem TabO.row (h : TabO S w A n c bs) {k : Nat} {xs : List E} (hk : bs[k]? = some xs) : ∃ (b o : Nat) (r : Sla), A = some ⟨b, o, none⟩ ∧ b < w.heap.size ∧ w.cell? ⟨b, o + k, none⟩ = some (.slice r.1 r.2.1 r.2.2) ∧ RowS S w r.1 r.2.1 r.2.2 xs := by
  obtain ⟨b, o, r, h1, h2, h3, h4, h5⟩ := h.at_ k xs hk
  exact ⟨b, o, r, h1, h3, h4, h5⟩
theorem RowE.offS (h : RowE w A n c l) (hS : ∀ b, S b → w.heap.size ≤ b) : RowS S w A n c l := ⟨h, fun hl b o e hs => by
  have := h.lt hl b o e
  have := hS b hs
  omega⟩
theorem RowS.add (h : RowS S w A n c l) (hT : ∀ b, T b → w.heap.size ≤ b) : RowS (fun b => S b ∨ T b) w A n c l := ⟨h.row, fun hl b o e hs => by
  rcases hs with hs | hs
  · exact h.off hl b o e hs
  · have := h.row.lt hl b o e
    have := hT b hs
    omega⟩
theorem TabO.add (h : TabO S w A n c bs) (hT : ∀ b, T b → w.heap.size ≤ b) : TabO (fun b => S b ∨ T b) w A n c bs := ⟨h.len, h.cap, h.nil, fun i xs hi => by
  obtain ⟨b, o, r, h1, h2, h3, h4, h5⟩ := h.at_ i xs hi
  refine ⟨b, o, r, h1, fun hs => ?_, h3, h4, h5.add hT⟩
  rcases hs with hs | hs
  · exact h2 hs
  · have := hT b hs
    omega⟩
theorem TabO.weak (h : TabO T w A n c bs) (hS : ∀ b, S b → T b) : TabO S w A n c bs := ⟨h.len, h.cap, h.nil, fun i xs hi => by
  obtain ⟨b, o, r, h1, h2, h3, h4, h5⟩ := h.at_ i xs hi
  exact ⟨b, o, r, h1, fun hs => h2 (hS b hs), h3, h4, h5.row, fun hl b o e hs => h5.off hl b o e (hS b hs)⟩⟩
theorem TabS.offS (h : TabS w A n c bs) (hS : ∀ b, S b → w.heap.size ≤ b) : TabO S w A n c bs := ⟨h.len, h.cap, h.nil, fun i xs hi => by
  obtain ⟨b, o, r, h1, h3, h4, h5⟩ := h.row hi
  refine ⟨b, o, r, h1, fun hs => ?_, h3, h4, h5.offS hS⟩
  have := hS b hs
  omega⟩
theorem own_tabO {B : Nat} {rs : List Sla} (ho : OwnR w B (.slice A n c) rs) (hS : ∀ b, S b → b < B) (hl : rs.length = bs.length) (h : ∀ (k : Nat) (r : Sla) (xs : List E), rs[k]? = some r → bs[k]? = some xs → RowS S w r.1 r.2.1 r.2.2 xs) : TabO S w A n c bs := by
  obtain ⟨A9, c9, hv, hcap, _, hA⟩ := ho.form
  have hsl := ho.sl (by decide)
  injection hv with e1 e2 e3
  subst e1; subst e3
  rw [List.length_map] at e2 hcap
  refine ⟨by omega, by omega, fun hn => ?_, fun k xs hk => ?_⟩
  · rcases hA with ⟨_, _, h0⟩ | ⟨g, h1, _⟩
    · exact h0
    · rw [hn] at h1; cases h1
  · have hkl : k < rs.length := by have := (List.getElem?_eq_some_iff.1 hk).1; omega
    obtain ⟨r, hr⟩ : ∃ r, rs[k]? = some r := ⟨_, List.getElem?_eq_getElem hkl⟩
    obtain ⟨b, o, rfl, hb, hx⟩ := Sl.at_ hsl (k := k) (cs := rcell r) (by rw [List.getElem?_map, hr]; rfl)
    have hx0 := hx 0 _ rfl
    rw [Nat.mul_one, Nat.add_zero] at hx0
    refine ⟨b, o, r, rfl, fun hs => ?_, hb, hx0, h k r xs hr hk⟩
    rcases hA with ⟨h1, _⟩ | ⟨g, h1, h2, _⟩
    · cases h1
    · obtain ⟨rfl, _⟩ : b = g ∧ o = 0 := by simpa using h1
      have := hS b hs
      omega
/-- A table handed back, apart from S. -/
def RetO (S : Nat → Prop) (w : World) (bs : List (List E)) (s ag : Int) (e : Ending) (w' : World) : Prop := ∃ A n c, e = .returned (tbv (.slice A n c) s ag) ∧ TabO S w' A n c bs ∧ Below w.heap.size w w'
end
set_option maxHeartbeats 8000000 in
theorem r_withS {S : Nat → Prop} {A A' : Option Addr} {n c n' c' : Nat} {bs : List (List E)} {l : List E} (s ag a : Int) {w : World} (ht : TabO S w A n c bs) (hr : RowS S w A' n' c' l) (hS : ∀ b, S b → b < w.heap.size) (hn : numB (bs.length : Int) = true) (hm : macB a = true) :
    Calls Try.prog 55 #[tbv (.slice A n c) s ag, .int .i64 a, .slice A' n' c'] w (RetO S w (bs.set (bucketI a bs.length).toNat l) s ag) := by
  obtain rfl := ht.len
  obtain ⟨kk, hk1, hk2, hk3⟩ := buck_at (a := a) hn
  have hnb := numB_cases hn
  have hbl : bs.length ≤ 16 := by omega
  have had := macB_ad hm
  have hcall := Lib.hid fun W => r_bucket_any a bs.length W had.1 had.2 hn
  rw [hk1] at hcall ⊢
  rw [Int.toNat_natCast]
  obtain ⟨w0, hw0⟩ : ∃ w0, w0 = (w.alloc (tObj (.slice A bs.length c) s ag)).alloc (tObj (.slice none 0 0) 0 0) := ⟨_, rfl⟩
  have B0 : Below w.heap.size w w0 := by rw [hw0]; exact ((Below.refl _ _).alloc (Nat.le_refl _) _).alloc (by simp) _
  have Y := Lib.hid (show Bx w0 w.heap.size TT #[.slice A bs.length c, .int .i64 s, .int .i64 ag] by rw [hw0]; exact (Bx.new w _ _ rfl).alloc _)
  have X := Lib.hid (show Bx w0 (w.heap.size + 1) TT #[.slice none 0 0, .int .i64 0, .int .i64 0] by rw [hw0]; exact Bx.new _ _ _ (by simp))
  have hz0 := Lib.hid X.out.lt
  obtain ⟨w1, hw1⟩ : ∃ w1, w1 = w0.alloc (.cells #[] 55) := ⟨_, rfl⟩
  have B1 : Below w0.heap.size w0 w1 := by rw [hw1]; exact (Below.refl _ _).alloc (Nat.le_refl _) _
  have O1 := Lib.hid (show OwnR w1 w0.heap.size (.slice (some ⟨w0.heap.size, 0, none⟩) 0 0) [] by rw [hw1]; exact own_litR w0 #[] [] w0.heap.size 0 (Nat.le_refl _) rfl rfl (by simp))
  have hzz : w.heap.size + 1 + 1 = w0.heap.size := by rw [hw0]; simp
  have hzy : w.heap.size < w0.heap.size := Y.out.lt
  have H := Lib.hid ht
  have HR := Lib.hid hr
  clear ht hr hn hm hnb had hk1 hk3
  replace B0 := Lib.hid B0
  have Yw := Y.out.below B1
  obtain ⟨v0, v1, v2⟩ := Bx.four' Yw
  replace B1 := Lib.hid B1
  replace hzz := Lib.hid hzz
  go_enter Try.func55, Try.ntmps55
  go_wp2_with fail
  rw [hzz.out, ← hw0, ← hw1]
  clear hw0 hw1 v0 v1 v2 Yw
  go_loopw [7, 14] (fun v i wr => ∃ (k : Nat) (rs : List Sla), k ≤ bs.length ∧ rs.length = k ∧ i = .int .i64 k ∧ OwnR wr w0.heap.size v rs ∧ (∀ (j : Nat) (r : Sla) (xs : List E), rs[j]? = some r → (bs.set kk l)[j]? = some xs → RowS S w r.1 r.2.1 r.2.2 xs) ∧ Below w0.heap.size w0 wr) (fun _ i _ => bs.length - (intOf i).toNat)
  case atStart => exact ⟨0, [], by omega, rfl, rfl, O1.out, (fun j r xs h => by simp at h), B1.out⟩
  case round =>
    clear O1 B1
    obtain ⟨k, rs, hk, hrs, rfl, hown, hrows, hb⟩ := hrel
    replace hown := Lib.hid hown
    replace hrows := Lib.hid hrows
    by_cases hlk : k < bs.length
    · obtain ⟨xs, hx⟩ : ∃ xs, bs[k]? = some xs := ⟨_, List.getElem?_eq_getElem hlk⟩
      obtain ⟨b, o, r, rfl, hbw, q0, hrow⟩ := H.out.row hx
      have hbb := B0.out.trans (hb.mono B0.out.size)
      replace q0 := (hbb.cell (p := ⟨b, _, none⟩) hbw).trans q0
      have hbw2 : b < wr.heap.size := Nat.lt_of_lt_of_le hbw hbb.size
      have YB := Y.out.below hb
      obtain ⟨y0, y1, y2⟩ := Bx.four' YB
      have hyl := YB.lt
      have hcw := Lib.hid (hcall.out wr)
      replace hrow := Lib.hid hrow
      replace hx := Lib.hid hx
      have hbs := Lib.hid hb.size
      obtain ⟨r1, r2, r3⟩ := r
      simp only at q0
      clear hbb YB hbw
      go_wp2_with fail
      go_at_call 67
      (with_reducible refine hcw.out.mono ?_)
      rintro e w2 ⟨rfl, hb2⟩
      have own1 := Lib.hid (hown.out.below hb2)
      have bW := Lib.hid (hb.trans (hb2.mono hbs.out))
      clear hb2 hcw q0 y0 y1 y2 hyl hbw2
      by_cases hkk : k = kk
      · have hkk' : ((k : Int) == (kk : Int)) = true := by rw [beq_iff_eq]; omega
        have hsl := Lib.hid (sl_oneR w2 ⟨A', n', c'⟩ _ rfl)
        have own2 := Lib.hid (own1.out.below ((Below.refl _ _).alloc (Nat.le_refl _) (.cells #[.slice A' n' c'] 55)))
        have hn1 : Hid ((rs.map rcell).length + [rcell ⟨A', n', c'⟩].length ≤ 1000000) := Lib.hid (by rw [List.length_map]; simp; omega)
        have hB2 : Hid (w0.heap.size ≤ (w2.alloc (.cells #[.slice A' n' c'] 55)).heap.size) := Lib.hid (by have := bW.out.size; simp; omega)
        have bW2 := Lib.hid (bW.out.alloc bW.out.size (.cells #[.slice A' n' c'] 55))
        go_wp2_with (at_builtin; (refine wpList_append_sl rfl (.tmp 27) (.tmp 29) 22 rfl elS (by rfl) own2.out (by rfl) (by rfl) hsl.out (whole_r [⟨A', n', c'⟩]) (fun h => by cases h) hn1.out hB2.out ?_); intro v' w3 own3 grow3 _)
        have B3 := bW2.out.grown grow3 bW2.out.size (fun j hj => (hown.out.lt j hj).1)
        go_roundw
        case rel =>
          refine ⟨k + 1, rs ++ [⟨A', n', c'⟩], by omega, by rw [List.length_append]; simp; omega, by go_num, by unfold OwnR; rw [List.map_append]; exact own3, fun j r xs hj hxs => ?_, B3⟩
          by_cases hjk : j < rs.length
          · rw [List.getElem?_append_left hjk] at hj
            exact hrows.out j r xs hj hxs
          · rw [List.getElem?_append_right (by omega)] at hj
            have hj0 : j - rs.length = 0 := by
              have := (List.getElem?_eq_some_iff.1 hj).1
              simp at this; omega
            rw [hj0] at hj
            obtain rfl : (⟨A', n', c'⟩ : Sla) = r := by simpa using hj
            obtain rfl : j = k := by omega
            exact (by subst hkk; rw [List.getElem?_set, if_pos rfl, if_pos hlk] at hxs; obtain rfl := Option.some.inj hxs; exact HR.out)
        case measure => simp [intOf]; omega
      · have hkk' : ((k : Int) == (kk : Int)) = false := by rw [beq_eq_false_iff_ne]; omega
        have hsl := Lib.hid (sl_oneR w2 ⟨r1, r2, r3⟩ _ rfl)
        have own2 := Lib.hid (own1.out.below ((Below.refl _ _).alloc (Nat.le_refl _) (.cells #[.slice r1 r2 r3] 55)))
        have hn1 : Hid ((rs.map rcell).length + [rcell ⟨r1, r2, r3⟩].length ≤ 1000000) := Lib.hid (by rw [List.length_map]; simp; omega)
        have hB2 : Hid (w0.heap.size ≤ (w2.alloc (.cells #[.slice r1 r2 r3] 55)).heap.size) := Lib.hid (by have := bW.out.size; simp; omega)
        have bW2 := Lib.hid (bW.out.alloc bW.out.size (.cells #[.slice r1 r2 r3] 55))
        go_wp2_with (at_builtin; (refine wpList_append_sl rfl (.tmp 27) (.tmp 29) 22 rfl elS (by rfl) own2.out (by rfl) (by rfl) hsl.out (whole_r [⟨r1, r2, r3⟩]) (fun h => by cases h) hn1.out hB2.out ?_); intro v' w3 own3 grow3 _)
        have B3 := bW2.out.grown grow3 bW2.out.size (fun j hj => (hown.out.lt j hj).1)
        go_roundw
        case rel =>
          refine ⟨k + 1, rs ++ [⟨r1, r2, r3⟩], by omega, by rw [List.length_append]; simp; omega, by go_num, by unfold OwnR; rw [List.map_append]; exact own3, fun j r xs hj hxs => ?_, B3⟩
          by_cases hjk : j < rs.length
          · rw [List.getElem?_append_left hjk] at hj
            exact hrows.out j r xs hj hxs
          · rw [List.getElem?_append_right (by omega)] at hj
            have hj0 : j - rs.length = 0 := by
              have := (List.getElem?_eq_some_iff.1 hj).1
              simp at this; omega
            rw [hj0] at hj
            obtain rfl : (⟨r1, r2, r3⟩ : Sla) = r := by simpa using hj
            obtain rfl : j = k := by omega
            exact (by rw [List.getElem?_set, if_neg (fun e => hkk e.symm), hx.out] at hxs; obtain rfl := Option.some.inj hxs; exact hrow.out)
        case measure => simp [intOf]; omega
    · obtain rfl : k = bs.length := by omega
      obtain ⟨A9, c9, hv, _⟩ := hown.out.form
      rw [List.length_map, hrs] at hv
      subst hv
      have XB := X.out.below hb
      have YB := Y.out.below hb
      obtain ⟨x0, x1, x2⟩ := Bx.four' XB
      obtain ⟨y0, y1, y2⟩ := Bx.four' YB
      have f0 := YB.f 0
      have e0 := XB.f 0
      have e1 := XB.f 1
      have e2 := XB.f 2
      have hz1 : w.heap.size < wr.heap.size := YB.lt
      have hz2 := Lib.hid XB.lt
      have BF := Lib.hid (bt B0.out hb)
      have hfin := Lib.hid fun v1 v2 v3 v4 => ((((hown.out.set hzy 0 v1).set (q := w.heap.size + 1) hz0.out 0 v2).set (q := w.heap.size + 1) hz0.out 1 v3).set (q := w.heap.size + 1) hz0.out 2 v4)
      have hlen : Hid (rs.length = (bs.set kk l).length) := Lib.hid (by rw [List.length_set]; exact hrs)
      have BG := Lib.hid fun v1 v2 v3 v4 => (((BF.out.setCell (p := ⟨w.heap.size, 0, none⟩) (Nat.le_refl _) v1).setCell (p := ⟨w.heap.size + 1, 0, none⟩) (Nat.le_succ _) v2).setCell (p := ⟨w.heap.size + 1, 1, none⟩) (Nat.le_succ _) v3).setCell (p := ⟨w.heap.size + 1, 2, none⟩) (Nat.le_succ _) v4
      clear XB YB X Y hown B0 hb hrs
      go_wp2_with fail
      refine bodyPost_ret (v := tbv (.slice A9 bs.length c9) s ag) (by simp [results, Try.results55, go_sem, x0, x1, x2]) rfl ⟨A9, bs.length, c9, rfl, own_tabO (hfin.out _ _ _ _) (fun b hb => Nat.lt_trans (hS b hb) hzy) hlen.out (fun j r xs h1 h2 => (hrows.out j r xs h1 h2).below (BG.out _ _ _ _)), BG.out _ _ _ _⟩
end Go.Proofs.Ytnghilcjecjljaa.FdbP
