/-
  What a table that may be is; fdb.New, Find.
-/
import Derived.Test.YtnghilcjecjljaaFdbI
namespace Go.Proofs.Ytnghilcjecjljaa.FdbP
open Go.RowKit Go.Sort Go.Proofs.Ytnghilcjecjljaa.SliceP Go.Proofs.Ytnghilcjecjljaa.MacP
set_option linter.unusedVariables false
set_option maxRecDepth 100000

theorem right_sizes {bs : List (List E)} {s ag : Int} (h : rightT bs s ag = true) : numB bs.length = true ∧ 1 ≤ s ∧ s ≤ 4 ∧ 1 ≤ ag ∧ ag ≤ 1048576 := by
  unfold rightT sizesB at h
  simp only [Bool.and_eq_true, decide_eq_true_eq] at h
  exact ⟨h.1.1, h.1.2.1, h.1.2.2.1, h.1.2.2.2.1, h.1.2.2.2.2⟩
theorem right_at {bs : List (List E)} {s ag : Int} {k : Nat} {l : List E} (h : rightT bs s ag = true) (hk : bs[k]? = some l) :
    (l.length : Int) ≤ s ∧ ∀ i x, l[i]? = some x → findE (l.take i) x.mac = none ∧ rightE x = true ∧ bucketI x.mac bs.length = (k : Int) := by
  unfold rightT at h
  rw [Bool.and_eq_true] at h
  have h2 := h.2
  unfold bucketsOk at h2
  rw [List.all_eq_true] at h2
  have h3 := h2 k (List.mem_range.2 (List.getElem?_eq_some_iff.1 hk).1)
  rw [List.getD_eq_getElem?_getD, hk, Option.getD_some] at h3
  unfold bucketOk at h3
  rw [Bool.and_eq_true, decide_eq_true_eq, List.all_eq_true] at h3
  refine ⟨h3.1, fun i x hx => ?_⟩
  have h4 := h3.2 i (List.mem_range.2 (List.getElem?_eq_some_iff.1 hx).1)
  unfold entOk at h4
  rw [hx] at h4
  simp only [Bool.and_eq_true, Option.isNone_iff_eq_none, beq_iff_eq] at h4
  exact ⟨h4.1, h4.2.1, h4.2.2⟩
theorem right_small {bs : List (List E)} {s ag : Int} (h : rightT bs s ag = true) : Small bs := by
  obtain ⟨h1, h2, h3, _⟩ := right_sizes h
  have := numB_cases h1
  refine ⟨by omega, fun xs hx => ?_⟩
  obtain ⟨k, hk⟩ := List.mem_iff_getElem?.1 hx
  have := (right_at h hk).1
  omega
theorem right_buck {bs : List (List E)} {s ag : Int} (h : rightT bs s ag = true) (a : Int) : ∃ k : Nat, bucketI a bs.length = (k : Int) ∧ k < bs.length ∧ bs[k]? = some (buck bs a) := buck_at (right_sizes h).1
theorem right_find {bs : List (List E)} {s ag a : Int} {x : E} (h : rightT bs s ag = true) (hf : findE (buck bs a) a = some x) : rightE x = true ∧ x.mac = a := by
  obtain ⟨k, _, _, hk⟩ := right_buck h a
  have hm := List.mem_of_find?_eq_some hf
  obtain ⟨i, hi⟩ := List.mem_iff_getElem?.1 hm
  have hp := List.find?_some hf
  unfold isM at hp
  exact ⟨((right_at h hk).2 i x hi).2.1, by simpa using hp⟩
theorem right_buck_len {bs : List (List E)} {s ag : Int} (h : rightT bs s ag = true) (a : Int) : (buck bs a).length ≤ 4 := by
  obtain ⟨k, _, _, hk⟩ := right_buck h a
  have := (right_at h hk).1
  obtain ⟨_, _, h3, _⟩ := right_sizes h
  omega

/-- What a call answers that answers a table and a number. -/
def RetTab (w : World) (bs : List (List E)) (s ag er : Int) (e : Ending) (w' : World) : Prop :=
  ∃ A n c, e = .returned (.tuple #[tbv (.slice A n c) s ag, .int .i64 er]) ∧ TabH w.heap.size w' A n c bs ∧ Below w.heap.size w w'
theorem TabS.empty (w : World) : TabS w none 0 0 [] := ⟨rfl, Nat.le_refl _, fun _ => rfl, fun k xs h => by simp at h⟩
theorem tab_nils {w : World} {g n : Nat} (h : Blk w g 55 (List.replicate n [.slice none 0 0])) : TabS w (some ⟨g, 0, none⟩) n n (List.replicate n []) := by
  refine ⟨by simp, Nat.le_refl _, (fun e => by cases e), fun k xs hk => ?_⟩
  rw [List.getElem?_replicate] at hk
  split at hk
  · rename_i hkn
    obtain rfl := Option.some.inj hk
    have hw : Whole 1 (List.replicate n [Value.slice none 0 0]) := Whole.replicate rfl (fun u hu => by simp at hu; subst hu; rfl) n
    have := Blk.cell h hw (k := k) (j := 0) (cs := [.slice none 0 0]) (by rw [List.getElem?_replicate, if_pos hkn]) rfl
    simp at this
    exact ⟨g, 0, none, 0, 0, rfl, h.lt, by simpa using this, RowE.empty w⟩
  · cases hk
set_option maxHeartbeats 4000000 in
theorem fdNew (n s ag : Int) (w : World) (hn : n ≤ 9223372036854775807) (b : Bool) (hb : sizesB n s ag = b) :
    Calls Try.prog 9 #[.int .i64 n, .int .i64 s, .int .i64 ag] w (RetTab w (if b then List.replicate n.toNat [] else []) (if b then s else 0) (if b then ag else 0) (if b then 0 else 2)) := by
  obtain ⟨w0, hw0⟩ : ∃ w0, w0 = w.alloc (tObj (.slice none 0 0) 0 0) := ⟨_, rfl⟩
  have B0 : Below w.heap.size w w0 := by rw [hw0]; exact (Below.refl _ _).alloc (Nat.le_refl _) _
  have X : Bx w0 w.heap.size 24 #[.slice none 0 0, .int .i64 0, .int .i64 0] := by rw [hw0]; exact Bx.new w _ _ rfl
  have hc := Lib.hid fun W => sizes_is n s ag W hn b hb
  cases b with
  | false =>
    clear hb
    go_enter Try.func9, Try.ntmps9
    go_wp2_with fail
    rw [← hw0]
    clear hw0
    go_at_call 32
    (with_reducible refine (hc.out _).mono ?_)
    rintro e w1 ⟨rfl, hb1⟩
    have B1 := Lib.hid (bt B0 hb1)
    have X1 := X.below hb1
    have x0 := X1.c (i := 0) rfl
    have x1 := X1.c (i := 1) rfl
    have x2 := X1.c (i := 2) rfl
    have f0 := X1.f 0
    have f1 := X1.f 1
    have f2 := X1.f 2
    clear hb1 X1 X
    go_wp2_with fail
    refine bodyPost_ret (v := .tuple #[tbv (.slice none 0 0) 0 0, .int .i64 2]) (by simp [results, Try.results9, go_sem, x0, x1, x2]) rfl ⟨none, 0, 0, rfl, fun _ _ => TabS.empty _, ?_⟩
    repeat (first | with_reducible exact B1.out | refine Below.setCell ?_ (by first | omega | (simp; done) | (simp; omega)) _)
  | true =>
    have hnn := numB_cases (sizesB_num hb)
    obtain ⟨m, rfl⟩ : ∃ m : Nat, n = (m : Int) := ⟨n.toNat, by omega⟩
    have hm : m ≤ 16 := by omega
    clear hb hnn
    go_enter Try.func9, Try.ntmps9
    go_wp2_with fail
    rw [← hw0]
    clear hw0
    go_at_call 32
    (with_reducible refine (hc.out _).mono ?_)
    rintro e w1 ⟨rfl, hb1⟩
    obtain ⟨w2, hmk, hbk, hb2, hs2⟩ := run_make_blk (P := Try.prog) w1 22 elS zvS rfl m (by omega)
    have B1 := bt (bt B0 hb1) hb2
    have X1 := (X.below hb1).below hb2
    have hlt : w.heap.size < w1.heap.size := (X.below hb1).lt
    have hlt9 := Lib.hid (Nat.le_of_lt hlt)
    have x0 := X1.c (i := 0) rfl
    have x1 := X1.c (i := 1) rfl
    have x2 := X1.c (i := 2) rfl
    have f0 := X1.f 0
    have f1 := X1.f 1
    have f2 := X1.f 2
    have hb3 : Blk (((w2.setCell ⟨w.heap.size, 0, none⟩ (.slice (some ⟨w1.heap.size, 0, none⟩) m m)).setCell ⟨w.heap.size, 1, none⟩ (.int .i64 s)).setCell ⟨w.heap.size, 2, none⟩ (.int .i64 ag)) w1.heap.size 55 (List.replicate m [.slice none 0 0]) :=
      Blk.grown (Blk.grown (Blk.grown hbk (setCell_grown _ _ _ _) (by simp; omega)) (setCell_grown _ _ _ _) (by simp; omega)) (setCell_grown _ _ _ _) (by simp; omega)
    replace hb3 := Lib.hid hb3
    replace B1 := Lib.hid B1
    clear hb1 X1 X hc hbk hs2 hb2
    go_wp2_with fail
    try (rw [hmk]; go_simp; go_wp2_with fail)
    refine bodyPost_ret (v := .tuple #[tbv (.slice (some ⟨w1.heap.size, 0, none⟩) m m) s ag, .int .i64 0]) (by simp [results, Try.results9, go_sem, x0, x1, x2]) rfl ⟨some ⟨w1.heap.size, 0, none⟩, m, m, rfl, ?_, ?_⟩
    · exact fun w' h' => tab_nils (Blk.hi hb3.out (by decide) hlt9.out h')
    · repeat (first | with_reducible exact B1.out | refine Below.setCell ?_ (by first | omega | (simp; done) | (simp; omega)) _)

def findO (oe : Option E) (ag now : Int) : Int := match oe with
  | none => -1
  | some x => if oldI x.st x.seen ag now then -1 else x.port
def findI (bs : List (List E)) (ag a now : Int) : Int := findO (findE (buck bs a) a) ag now
def findOk (bs : List (List E)) (s ag a now : Int) : Bool := rightT bs s ag && (macB a && timeB now)
def IsP (w : World) (p er : Int) (e : Ending) (w' : World) : Prop := e = .returned (.tuple #[.int .i64 p, .int .i64 er]) ∧ Below w.heap.size w w'
set_option maxHeartbeats 8000000 in
theorem fdFind {A : Option Addr} {n c : Nat} {bs : List (List E)} (s ag a now : Int) {w : World} (ht : TabS w A n c bs) (hs : Small bs) (r : Bool) (hr : findOk bs s ag a now = r) :
    Calls Try.prog 11 #[tbv (.slice A n c) s ag, .int .i64 a, .int .i64 now] w (IsP w (if r then findI bs ag a now else 0) (if r then 0 else 1)) := by
  obtain ⟨w0, hw0⟩ : ∃ w0, w0 = w.alloc (tObj (.slice A n c) s ag) := ⟨_, rfl⟩
  have B0 : Below w.heap.size w w0 := by rw [hw0]; exact (Below.refl _ _).alloc (Nat.le_refl _) _
  have Y : Bx w0 w.heap.size 24 #[.slice A n c, .int .i64 s, .int .i64 ag] := by rw [hw0]; exact Bx.new w _ _ rfl
  have hR := Lib.hid (fdRight s ag (ht.below B0) hs _ rfl)
  have ht0 := Lib.hid (ht.below B0)
  have y0 := Y.c (i := 0) rfl
  have y1 := Y.c (i := 1) rfl
  have y2 := Y.c (i := 2) rfl
  replace Y := Lib.hid Y
  clear ht
  cases h1 : rightT bs s ag with
  | false =>
    obtain rfl : r = false := by rw [← hr]; unfold findOk; rw [h1, Bool.false_and]
    rw [h1] at hR
    clear hr h1
    go_enter Try.func11, Try.ntmps11
    go_wp2_with fail
    rw [← hw0]
    clear hw0 y0 y1 y2
    go_at_call 12
    (with_reducible refine hR.out.mono ?_)
    rintro e w1 ⟨rfl, hb1⟩
    have B1 := Lib.hid (bt B0 hb1)
    clear hb1
    go_wp2_with fail
    go_ret2
    exact ⟨rfl, B1.out⟩
  | true =>
    rw [h1] at hR
    cases h2 : macB a with
    | false =>
      obtain rfl : r = false := by rw [← hr]; unfold findOk; rw [h1, h2, Bool.false_and, Bool.and_false]
      replace h2 := Lib.hid h2
      clear hr h1
      go_enter Try.func11, Try.ntmps11
      go_wp2_with fail
      rw [← hw0]
      clear hw0 y0 y1 y2
      go_at_call 12
      (with_reducible refine hR.out.mono ?_)
      rintro e w1 ⟨rfl, hb1⟩
      have B1 := Lib.hid (bt B0 hb1)
      clear hb1
      go_wp2_with fail
      go_at_call 33
      (with_reducible refine (station_is a _ _ h2.out).mono ?_)
      rintro e w2 ⟨rfl, rfl⟩
      go_wp2_with fail
      go_ret2
      exact ⟨rfl, B1.out⟩
    | true =>
      have hmac := Lib.hid (macB_ad h2)
      cases h3 : timeB now with
      | false =>
        obtain rfl : r = false := by rw [← hr]; unfold findOk; rw [h1, h2, h3, Bool.and_false, Bool.and_false]
        replace h2 := Lib.hid h2
        replace h3 := Lib.hid h3
        clear hr h1
        go_enter Try.func11, Try.ntmps11
        go_wp2_with fail
        rw [← hw0]
        clear hw0 y0 y1 y2
        go_at_call 12
        (with_reducible refine hR.out.mono ?_)
        rintro e w1 ⟨rfl, hb1⟩
        have B1 := Lib.hid (bt B0 hb1)
        clear hb1
        go_wp2_with fail
        go_at_call 33
        (with_reducible refine (station_is a _ _ h2.out).mono ?_)
        rintro e w2 ⟨rfl, rfl⟩
        go_wp2_with fail
        go_at_call 35
        (with_reducible refine (time_is now _ _ h3.out).mono ?_)
        rintro e w2 ⟨rfl, hb2⟩
        have B2 := Lib.hid (bt B1.out hb2)
        clear hb2
        go_wp2_with fail
        go_ret2
        exact ⟨rfl, B2.out⟩
      | true =>
        obtain rfl : r = true := by rw [← hr]; unfold findOk; rw [h1, h2, h3, Bool.and_true, Bool.and_true]
        have htm := timeB_iff.1 h3
        have hrt := Lib.hid h1
        obtain ⟨oe, hoe⟩ : ∃ oe, findE (buck bs a) a = oe := ⟨_, rfl⟩
        have hfd : findI bs ag a now = findO oe ag now := by unfold findI; rw [hoe]
        have hxs : ∀ x, oe = some x → rightE x = true := fun x hx => (right_find h1 (hoe.trans hx)).1
        have hlook := fun W (hT : TabS W A n c bs) => look_any s ag a hT (macB_ad h2).1 (macB_ad h2).2 (right_sizes h1).1 (Nat.le_trans (right_buck_len h1 a) (by omega)) oe hoe
        replace hlook := Lib.hid hlook
        replace h2 := Lib.hid h2
        replace h3 := Lib.hid h3
        replace hfd := Lib.hid hfd
        replace hxs := Lib.hid hxs
        clear hr h1 hoe
        go_enter Try.func11, Try.ntmps11
        go_wp2_with fail
        rw [← hw0]
        clear hw0 y0 y1 y2
        go_at_call 12
        (with_reducible refine hR.out.mono ?_)
        rintro e w1 ⟨rfl, hb1⟩
        have B1 := Lib.hid (bt B0 hb1)
        have Y1 := Lib.hid (Y.out.below hb1)
        have T1 := Lib.hid (ht0.out.below hb1)
        clear hb1 Y ht0
        go_wp2_with fail
        go_at_call 33
        (with_reducible refine (station_is a _ _ h2.out).mono ?_)
        rintro e w2 ⟨rfl, rfl⟩
        go_wp2_with fail
        go_at_call 35
        (with_reducible refine (time_is now _ _ h3.out).mono ?_)
        rintro e w2 ⟨rfl, hb2⟩
        have B2 := Lib.hid (bt B1.out hb2)
        have Y2 := Lib.hid (Y1.out.below hb2)
        have T2 := Lib.hid (T1.out.below hb2)
        have y0 := Y2.out.c (i := 0) rfl
        have y1 := Y2.out.c (i := 1) rfl
        have y2 := Y2.out.c (i := 2) rfl
        have hL := Lib.hid (hlook.out _ T2.out)
        clear hb2 Y1 T1 B1
        go_wp2_with fail
        go_at_call 36
        (with_reducible refine hL.out.mono ?_)
        rintro e w3 ⟨rfl, hb3⟩
        have B3 := bt B2.out hb3
        have Y3 := Y2.out.below hb3
        clear hb3 y0 y1 y2 Y2 T2 B2 hL
        obtain ⟨W, hW⟩ : ∃ W, W = w3.alloc (eObj (oe.getD zE).mac (oe.getD zE).port (oe.getD zE).seen (oe.getD zE).st) := ⟨_, rfl⟩
        have BW : Below w3.heap.size w3 W := by rw [hW]; exact (Below.refl _ _).alloc (Nat.le_refl _) _
        have XW : Bx W w3.heap.size 57 #[.int .i64 (oe.getD zE).mac, .int .i64 (oe.getD zE).port, .int .i64 (oe.getD zE).seen, .bool (oe.getD zE).st] := by rw [hW]; exact Bx.new _ _ _ rfl
        have B4 := Lib.hid (bt B3 BW)
        have y2 := Y3.c (i := 2) rfl
        have hz3 := Y3.lt
        have x0 := XW.c (i := 0) rfl
        have x1 := XW.c (i := 1) rfl
        have x2 := XW.c (i := 2) rfl
        have x3 := XW.c (i := 3) rfl
        replace XW := Lib.hid XW
        clear BW B3 Y3
        cases oe with
        | none =>
          go_wp2_with fail
          go_ret2
          exact ⟨by rw [hfd.out]; rfl, by rw [hW] at B4; exact B4.out⟩
        | some x =>
          have hx := hxs.out x rfl
          have ht2 := rightE_time hx
          simp only [Option.getD_some] at hW XW x0 x1 x2 x3
          cases ho : oldI x.st x.seen ag now with
          | true =>
            have hcall := fun W => isOld_any x.mac x.port x.seen x.st ag now W ht2 htm
            rw [ho] at hcall
            replace hcall := Lib.hid hcall
            replace ho := Lib.hid ho
            clear hx ht2 htm
            go_wp2_with fail
            rw [← hW]
            clear hW
            go_at_call 39
            (with_reducible refine (hcall.out _).mono ?_)
            rintro e w5 ⟨rfl, hb5⟩
            have B5 := Lib.hid (bt B4.out hb5)
            clear hb5 x0 x1 x2 x3 y2
            go_wp2_with fail
            go_ret2
            exact ⟨by rw [hfd.out]; unfold findO; simp only; rw [if_pos ho.out]; rfl, B5.out⟩
          | false =>
            have hcall := fun W => isOld_any x.mac x.port x.seen x.st ag now W ht2 htm
            rw [ho] at hcall
            replace hcall := Lib.hid hcall
            replace ho := Lib.hid ho
            clear hx ht2 htm
            go_wp2_with fail
            rw [← hW]
            clear hW
            go_at_call 39
            (with_reducible refine (hcall.out _).mono ?_)
            rintro e w5 ⟨rfl, hb5⟩
            have B5 := Lib.hid (bt B4.out hb5)
            have z1 := (XW.out.below hb5).c (i := 1) rfl
            clear hb5 x0 x1 x2 x3 y2
            go_wp2_with fail
            go_ret2
            exact ⟨by rw [hfd.out]; unfold findO; simp only; rw [if_neg (by rw [ho.out]; simp)]; rfl, B5.out⟩
end Go.Proofs.Ytnghilcjecjljaa.FdbP
