/-
  fdb.Learn, Pin, Unpin.
-/
import Derived.Test.YtnghilcjecjljaaFdbN
namespace Go.Proofs.Ytnghilcjecjljaa.FdbP
open Go.RowKit Go.Sort Go.Proofs.Ytnghilcjecjljaa.SliceP Go.Proofs.Ytnghilcjecjljaa.MacP
set_option linter.unusedVariables false
set_option maxRecDepth 100000

def learnT (bs : List (List E)) (s a port now : Int) : List (List E) := if ((findE (buck bs a) a).getD zE).st then bs else (putO bs s ⟨a, port, now, false⟩).getD bs
def learnOk (bs : List (List E)) (s ag a port now : Int) : Bool := rightT bs s ag && (macB a && (portB port && timeB now))
def pinOk (bs : List (List E)) (s ag a port : Int) : Bool := rightT bs s ag && (macB a && portB port)
def pinO (bs : List (List E)) (s a port : Int) : Option (List (List E)) := putO bs s ⟨a, port, 0, true⟩
def unpinOk (bs : List (List E)) (s ag a : Int) : Bool := rightT bs s ag && macB a
/-- The static entry of an address. -/
def pinnedE (bs : List (List E)) (a : Int) : Option E := (findE (buck bs a) a).filter E.st
def unpinO (bs : List (List E)) (a : Int) : Option (List (List E)) := (pinnedE bs a).map fun y => bs.map (keepL (isE y))
theorem Bx.four' {w : World} {b : Nat} {T : TypeId} {v0 v1 v2 : Value} (h : Bx w b T #[v0, v1, v2]) : w.cell? ⟨b, 0, none⟩ = some v0 ∧ w.cell? ⟨b, 1, none⟩ = some v1 ∧ w.cell? ⟨b, 2, none⟩ = some v2 := ⟨h.c (i := 0) rfl, h.c (i := 1) rfl, h.c (i := 2) rfl⟩
set_option maxHeartbeats 8000000 in
theorem fdLearn {A : Option Addr} {n c : Nat} {bs : List (List E)} (s ag a port now : Int) {w : World} (ht : TabS w A n c bs) (hs : Small bs) (r : Bool) (hr : learnOk bs s ag a port now = r) :
    Calls Try.prog 10 #[tbv (.slice A n c) s ag, .int .i64 a, .int .i64 port, .int .i64 now] w (RetTab w (if r then learnT bs s a port now else []) (if r then s else 0) (if r then ag else 0) (if r then 0 else 1)) := by
  obtain ⟨w0, hw0⟩ : ∃ w0, w0 = (w.alloc (tObj (.slice A n c) s ag)).alloc (tObj (.slice none 0 0) 0 0) := ⟨_, rfl⟩
  have B0 : Below w.heap.size w w0 := by rw [hw0]; exact ((Below.refl _ _).alloc (Nat.le_refl _) _).alloc (by simp) _
  have Y : Bx w0 w.heap.size 24 #[.slice A n c, .int .i64 s, .int .i64 ag] := by rw [hw0]; exact (Bx.new w _ _ rfl).alloc _
  have X : Bx w0 (w.heap.size + 1) 24 #[.slice none 0 0, .int .i64 0, .int .i64 0] := by rw [hw0]; exact Bx.new _ _ _ (by simp)
  have hz0 : w.heap.size + 1 < w0.heap.size := X.lt
  have hR := Lib.hid (fdRight s ag (ht.below B0) hs _ rfl)
  have ht0 := Lib.hid (ht.below B0)
  replace Y := Lib.hid Y
  replace X := Lib.hid X
  clear ht
  cases h1 : rightT bs s ag with
  | false =>
    obtain rfl : r = false := by rw [← hr]; unfold learnOk; rw [h1]; first | done | rfl
    rw [h1] at hR
    replace h1 := Lib.hid h1
    clear hr
    go_enter Try.func10, Try.ntmps10
    go_wp2_with fail
    rw [← hw0]
    clear hw0
    go_at_call 12
    (with_reducible refine (hR.out).mono ?_)
    rintro e w1 ⟨rfl, hb1⟩
    have B1 := Lib.hid (bt B0 hb1)
    have X1 := Lib.hid (X.out.below hb1)
    have Y1 := Lib.hid (Y.out.below hb1)
    have T1 := Lib.hid (ht0.out.below hb1)
    have hz1 := Nat.lt_of_lt_of_le hz0 hb1.size
    clear hb1
    obtain ⟨x0, x1, x2⟩ := Bx.four' X1.out
    have f0 := X1.out.f 0
    have f1 := X1.out.f 1
    have f2 := X1.out.f 2
    go_wp2_with fail
    refine bodyPost_ret (v := .tuple #[tbv (.slice none 0 0) 0 0, .int .i64 1]) (by simp [results, Try.results10, go_sem, x0, x1, x2]) rfl ⟨none, 0, 0, rfl, fun _ _ => TabS.empty _, ?_⟩
    exact below3 B1.out (by omega) _ _ _
  | true =>
    rw [h1] at hR
    cases h2 : macB a with
    | false =>
      obtain rfl : r = false := by rw [← hr]; unfold learnOk; rw [h1, h2]; first | done | rfl
      replace h1 := Lib.hid h1
      replace h2 := Lib.hid h2
      clear hr
      go_enter Try.func10, Try.ntmps10
      go_wp2_with fail
      rw [← hw0]
      clear hw0
      go_at_call 12
      (with_reducible refine (hR.out).mono ?_)
      rintro e w1 ⟨rfl, hb1⟩
      have B1 := Lib.hid (bt B0 hb1)
      have X1 := Lib.hid (X.out.below hb1)
      have Y1 := Lib.hid (Y.out.below hb1)
      have T1 := Lib.hid (ht0.out.below hb1)
      have hz1 := Nat.lt_of_lt_of_le hz0 hb1.size
      clear hb1
      go_wp2_with fail
      go_at_call 33
      (with_reducible refine (station_is a _ _ h2.out).mono ?_)
      rintro e w9 ⟨rfl, rfl⟩
      obtain ⟨x0, x1, x2⟩ := Bx.four' X1.out
      have f0 := X1.out.f 0
      have f1 := X1.out.f 1
      have f2 := X1.out.f 2
      go_wp2_with fail
      refine bodyPost_ret (v := .tuple #[tbv (.slice none 0 0) 0 0, .int .i64 1]) (by simp [results, Try.results10, go_sem, x0, x1, x2]) rfl ⟨none, 0, 0, rfl, fun _ _ => TabS.empty _, ?_⟩
      exact below3 B1.out (by omega) _ _ _
    | true =>
      cases h3 : portB port with
      | false =>
        obtain rfl : r = false := by rw [← hr]; unfold learnOk; rw [h1, h2, h3]; first | done | rfl
        replace h1 := Lib.hid h1
        replace h2 := Lib.hid h2
        replace h3 := Lib.hid h3
        clear hr
        go_enter Try.func10, Try.ntmps10
        go_wp2_with fail
        rw [← hw0]
        clear hw0
        go_at_call 12
        (with_reducible refine (hR.out).mono ?_)
        rintro e w1 ⟨rfl, hb1⟩
        have B1 := Lib.hid (bt B0 hb1)
        have X1 := Lib.hid (X.out.below hb1)
        have Y1 := Lib.hid (Y.out.below hb1)
        have T1 := Lib.hid (ht0.out.below hb1)
        have hz1 := Nat.lt_of_lt_of_le hz0 hb1.size
        clear hb1
        go_wp2_with fail
        go_at_call 33
        (with_reducible refine (station_is a _ _ h2.out).mono ?_)
        rintro e w9 ⟨rfl, rfl⟩
        go_wp2_with fail
        go_at_call 34
        (with_reducible refine (port_is port _ _ h3.out).mono ?_)
        rintro e w9 ⟨rfl, rfl⟩
        obtain ⟨x0, x1, x2⟩ := Bx.four' X1.out
        have f0 := X1.out.f 0
        have f1 := X1.out.f 1
        have f2 := X1.out.f 2
        go_wp2_with fail
        refine bodyPost_ret (v := .tuple #[tbv (.slice none 0 0) 0 0, .int .i64 1]) (by simp [results, Try.results10, go_sem, x0, x1, x2]) rfl ⟨none, 0, 0, rfl, fun _ _ => TabS.empty _, ?_⟩
        exact below3 B1.out (by omega) _ _ _
      | true =>
        cases h4 : timeB now with
        | false =>
          obtain rfl : r = false := by rw [← hr]; unfold learnOk; rw [h1, h2, h3, h4]; first | done | rfl
          replace h1 := Lib.hid h1
          replace h2 := Lib.hid h2
          replace h3 := Lib.hid h3
          replace h4 := Lib.hid h4
          clear hr
          go_enter Try.func10, Try.ntmps10
          go_wp2_with fail
          rw [← hw0]
          clear hw0
          go_at_call 12
          (with_reducible refine (hR.out).mono ?_)
          rintro e w1 ⟨rfl, hb1⟩
          have B1 := Lib.hid (bt B0 hb1)
          have X1 := Lib.hid (X.out.below hb1)
          have Y1 := Lib.hid (Y.out.below hb1)
          have T1 := Lib.hid (ht0.out.below hb1)
          have hz1 := Nat.lt_of_lt_of_le hz0 hb1.size
          clear hb1
          go_wp2_with fail
          go_at_call 33
          (with_reducible refine (station_is a _ _ h2.out).mono ?_)
          rintro e w9 ⟨rfl, rfl⟩
          go_wp2_with fail
          go_at_call 34
          (with_reducible refine (port_is port _ _ h3.out).mono ?_)
          rintro e w9 ⟨rfl, rfl⟩
          go_wp2_with fail
          go_at_call 35
          (with_reducible refine (time_is now _ _ h4.out).mono ?_)
          rintro e w2 ⟨rfl, hb2⟩
          have B2 := Lib.hid (bt B1.out hb2)
          have X2 := Lib.hid (X1.out.below hb2)
          have Y2 := Lib.hid (Y1.out.below hb2)
          have T2 := Lib.hid (T1.out.below hb2)
          have hz2 := Nat.lt_of_lt_of_le hz1 hb2.size
          clear hb2
          obtain ⟨x0, x1, x2⟩ := Bx.four' X2.out
          have f0 := X2.out.f 0
          have f1 := X2.out.f 1
          have f2 := X2.out.f 2
          go_wp2_with fail
          refine bodyPost_ret (v := .tuple #[tbv (.slice none 0 0) 0 0, .int .i64 1]) (by simp [results, Try.results10, go_sem, x0, x1, x2]) rfl ⟨none, 0, 0, rfl, fun _ _ => TabS.empty _, ?_⟩
          exact below3 B2.out (by omega) _ _ _
        | true =>
          obtain rfl : r = true := by rw [← hr]; unfold learnOk; rw [h1, h2, h3, h4]; first | done | rfl
          obtain ⟨oe, hoe⟩ : ∃ oe, findE (buck bs a) a = oe := ⟨_, rfl⟩
          have hxs : ∀ x, oe = some x → rightE x = true := fun x hx => (right_find h1 (hoe.trans hx)).1
          have hlook := Lib.hid fun W (hT : TabS W A n c bs) => look_any s ag a hT (macB_ad h2).1 (macB_ad h2).2 (right_sizes h1).1 (Nat.le_trans (right_buck_len h1 a) (by omega)) oe hoe
          replace hoe := Lib.hid hoe
          replace hxs := Lib.hid hxs
          have hput := Lib.hid fun (W : World) (hT : TabS W A n c bs) => fdPut s ag ⟨a, port, now, false⟩ hT h1 h2
          replace h1 := Lib.hid h1
          replace h2 := Lib.hid h2
          replace h3 := Lib.hid h3
          replace h4 := Lib.hid h4
          clear hr
          go_enter Try.func10, Try.ntmps10
          go_wp2_with fail
          rw [← hw0]
          clear hw0
          go_at_call 12
          (with_reducible refine (hR.out).mono ?_)
          rintro e w1 ⟨rfl, hb1⟩
          have B1 := Lib.hid (bt B0 hb1)
          have X1 := Lib.hid (X.out.below hb1)
          have Y1 := Lib.hid (Y.out.below hb1)
          have T1 := Lib.hid (ht0.out.below hb1)
          have hz1 := Nat.lt_of_lt_of_le hz0 hb1.size
          clear hb1
          go_wp2_with fail
          go_at_call 33
          (with_reducible refine (station_is a _ _ h2.out).mono ?_)
          rintro e w9 ⟨rfl, rfl⟩
          go_wp2_with fail
          go_at_call 34
          (with_reducible refine (port_is port _ _ h3.out).mono ?_)
          rintro e w9 ⟨rfl, rfl⟩
          go_wp2_with fail
          go_at_call 35
          (with_reducible refine (time_is now _ _ h4.out).mono ?_)
          rintro e w2 ⟨rfl, hb2⟩
          have B2 := Lib.hid (bt B1.out hb2)
          have X2 := Lib.hid (X1.out.below hb2)
          have Y2 := Lib.hid (Y1.out.below hb2)
          have T2 := Lib.hid (T1.out.below hb2)
          have hz2 := Nat.lt_of_lt_of_le hz1 hb2.size
          clear hb2
          obtain ⟨y0, y1, y2⟩ := Bx.four' Y2.out
          have hL := Lib.hid (hlook.out _ T2.out)
          go_wp2_with fail
          go_at_call 36
          (with_reducible refine hL.out.mono ?_)
          rintro e w5 ⟨rfl, hb5⟩
          have B5 := Lib.hid (bt B2.out hb5)
          have X5 := Lib.hid (X2.out.below hb5)
          have Y5 := Lib.hid (Y2.out.below hb5)
          have T5 := Lib.hid (T2.out.below hb5)
          have hz5 := Nat.lt_of_lt_of_le hz2 hb5.size
          clear hb5 y0 y1 y2 hL
          obtain ⟨z, hz⟩ : ∃ z, oe.getD zE = z := ⟨_, rfl⟩
          rw [hz]
          obtain ⟨wl, hwl⟩ : ∃ wl, wl = w5.alloc (eObj z.mac z.port z.seen z.st) := ⟨_, rfl⟩
          have BL : Below w5.heap.size w5 wl := by rw [hwl]; exact (Below.refl _ _).alloc (Nat.le_refl _) _
          have E6 : Bx wl w5.heap.size 57 #[.int .i64 z.mac, .int .i64 z.port, .int .i64 z.seen, .bool z.st] := by rw [hwl]; exact Bx.new _ _ _ rfl
          have B6 := Lib.hid (bt B5.out BL)
          have X6 := Lib.hid (X5.out.below BL)
          have Y6 := Lib.hid (Y5.out.below BL)
          have T6 := Lib.hid (T5.out.below BL)
          have hz6 := Nat.lt_of_lt_of_le hz5 BL.size
          have hze := E6.lt
          obtain ⟨y0, y1, y2⟩ := Bx.four' Y5.out
          have hly5 := Y5.out.lt
          obtain ⟨x0, x1, x2⟩ := Bx.four' X5.out
          have f0 := X5.out.f 0
          have f1 := X5.out.f 1
          have f2 := X5.out.f 2
          replace E6 := Lib.hid E6
          replace hz := Lib.hid hz
          clear BL
          cases hst : z.st with
          | true =>
            have hle : learnT bs s a port now = bs := by unfold learnT; rw [hoe.out, hz.out, hst]; rfl
            have his : oe.isSome = true := by
              cases oe with
              | none => rw [← hz.out] at hst; cases hst
              | some q => rfl
            rw [hst] at hwl
            rw [his]
            replace hle := Lib.hid hle
            have hcp := Lib.hid (copyOf_any s ag T6.out hs.1 hs.2)
            go_wp2_with fail
            (try simp only [hst])
            rw [← hwl]
            clear hst hwl y0 y1 y2 x0 x1 x2 f0 f1 f2
            go_at_call 37
            (with_reducible refine hcp.out.mono ?_)
            rintro e w7 ⟨g7, ps7, rfl, hot7, hrow7, _, hb7⟩
            have X7 := X6.out.below hb7
            have B7 := Lib.hid (bt B6.out hb7)
            obtain ⟨x0, x1, x2⟩ := Bx.four' X7
            have f0 := X7.f 0
            have f1 := X7.f 1
            have f2 := X7.f 2
            have hz7 := hb7.size
            have hfin := Lib.hid ((hot7.box3 X7 (.slice (some ⟨g7, 0, none⟩) bs.length bs.length) (.int .i64 s) (.int .i64 ag)).tabH (B' := w.heap.size) (by omega) hrow7 rfl)
            clear hb7 X7 hot7 hcp
            replace hrow7 := Lib.hid hrow7
            go_wp2_with fail
            refine bodyPost_ret (v := .tuple #[tbv (.slice (some ⟨g7, 0, none⟩) bs.length bs.length) s ag, .int .i64 0]) (by simp [results, Try.results10, go_sem, x0, x1, x2]) rfl ⟨_, _, _, rfl, ?_, ?_⟩
            · rw [hle.out]; exact hfin.out
            · exact below3 B7.out (by omega) _ _ _
          | false =>
            have hle : learnT bs s a port now = (putO bs s ⟨a, port, now, false⟩).getD bs := by unfold learnT; rw [hoe.out, hz.out, hst]; rfl
            replace hle := Lib.hid hle
            rw [hst] at hwl
            have hcp := Lib.hid (hput.out _ T6.out)
            obtain ⟨his, hhis⟩ : ∃ b, oe.isSome = b := ⟨_, rfl⟩
            rw [hhis]
            replace hhis := Lib.hid hhis
            cases his
            all_goals
              go_wp2_with fail
              (try simp only [hst])
              rw [← hwl]
              clear hst hwl y0 y1 y2 x0 x1 x2 f0 f1 f2
              go_at_call 38
              (with_reducible refine hcp.out.mono ?_)
              rintro e w7 ⟨A7, n7, c7, rfl, hT7, hb7⟩
              have B7 := Lib.hid (bt B6.out hb7)
              have hz7 := Nat.lt_of_lt_of_le hz6 hb7.size
              have X7' := X6.out.below hb7
              obtain ⟨x0, x1, x2⟩ := Bx.four' X7'
              have f0 := X7'.f 0
              have f1 := X7'.f 1
              have f2 := X7'.f 2
              have hfin := Lib.hid (TabH.base ((hT7.hi (Hi.three w7 hz6 (.slice A7 n7 c7) (.int .i64 s) (.int .i64 ag))).below ((Below.refl _ _).alloc (Nat.le_refl _) (tObj (.slice A7 n7 c7) s ag))) (show w.heap.size ≤ wl.heap.size by omega))
              clear hb7 hcp X7' hT7
              go_wp2_with fail
              refine bodyPost_ret (v := .tuple #[tbv (.slice A7 n7 c7) s ag, .int .i64 0]) (by simp [results, Try.results10, go_sem, x0, x1, x2, hz7]) rfl ⟨_, _, _, rfl, ?_, ?_⟩
              · rw [hle.out]; exact hfin.out
              · exact (below3 B7.out (by omega) _ _ _).alloc (by simp; omega) _
/-- What a call answers that may refuse. -/
def RetOpt (w : World) (r : Bool) (o : Option (List (List E))) (s ag er : Int) (e : Ending) (w' : World) : Prop := RetTab w (if r then o.getD [] else []) (if r && o.isSome then s else 0) (if r && o.isSome then ag else 0) (if r then (if o.isSome then 0 else er) else 1) e w'
set_option maxHeartbeats 8000000 in
theorem fdUnpin {A : Option Addr} {n c : Nat} {bs : List (List E)} (s ag a : Int) {w : World} (ht : TabS w A n c bs) (hs : Small bs) (r : Bool) (hr : unpinOk bs s ag a = r) :
    Calls Try.prog 24 #[tbv (.slice A n c) s ag, .int .i64 a] w (RetOpt w r (unpinO bs a) s ag 4) := by
  obtain ⟨w0, hw0⟩ : ∃ w0, w0 = (w.alloc (tObj (.slice A n c) s ag)).alloc (tObj (.slice none 0 0) 0 0) := ⟨_, rfl⟩
  have B0 : Below w.heap.size w w0 := by rw [hw0]; exact ((Below.refl _ _).alloc (Nat.le_refl _) _).alloc (by simp) _
  have Y : Bx w0 w.heap.size 24 #[.slice A n c, .int .i64 s, .int .i64 ag] := by rw [hw0]; exact (Bx.new w _ _ rfl).alloc _
  have X : Bx w0 (w.heap.size + 1) 24 #[.slice none 0 0, .int .i64 0, .int .i64 0] := by rw [hw0]; exact Bx.new _ _ _ (by simp)
  have hz0 : w.heap.size + 1 < w0.heap.size := X.lt
  have hR := Lib.hid (fdRight s ag (ht.below B0) hs _ rfl)
  have ht0 := Lib.hid (ht.below B0)
  replace Y := Lib.hid Y
  replace X := Lib.hid X
  clear ht
  cases h1 : rightT bs s ag with
  | false =>
    obtain rfl : r = false := by rw [← hr]; unfold unpinOk; rw [h1]; first | done | rfl
    rw [h1] at hR
    replace h1 := Lib.hid h1
    clear hr
    go_enter Try.func24, Try.ntmps24
    go_wp2_with fail
    rw [← hw0]
    clear hw0
    go_at_call 12
    (with_reducible refine (hR.out).mono ?_)
    rintro e w1 ⟨rfl, hb1⟩
    have B1 := Lib.hid (bt B0 hb1)
    have X1 := Lib.hid (X.out.below hb1)
    have Y1 := Lib.hid (Y.out.below hb1)
    have T1 := Lib.hid (ht0.out.below hb1)
    have hz1 := Nat.lt_of_lt_of_le hz0 hb1.size
    clear hb1
    obtain ⟨x0, x1, x2⟩ := Bx.four' X1.out
    have f0 := X1.out.f 0
    have f1 := X1.out.f 1
    have f2 := X1.out.f 2
    go_wp2_with fail
    refine bodyPost_ret (v := .tuple #[tbv (.slice none 0 0) 0 0, .int .i64 1]) (by simp [results, Try.results24, go_sem, x0, x1, x2]) rfl ⟨none, 0, 0, rfl, fun _ _ => TabS.empty _, ?_⟩
    exact below3 B1.out (by omega) _ _ _
  | true =>
    rw [h1] at hR
    cases h2 : macB a with
    | false =>
      obtain rfl : r = false := by rw [← hr]; unfold unpinOk; rw [h1, h2]; first | done | rfl
      replace h1 := Lib.hid h1
      replace h2 := Lib.hid h2
      clear hr
      go_enter Try.func24, Try.ntmps24
      go_wp2_with fail
      rw [← hw0]
      clear hw0
      go_at_call 12
      (with_reducible refine (hR.out).mono ?_)
      rintro e w1 ⟨rfl, hb1⟩
      have B1 := Lib.hid (bt B0 hb1)
      have X1 := Lib.hid (X.out.below hb1)
      have Y1 := Lib.hid (Y.out.below hb1)
      have T1 := Lib.hid (ht0.out.below hb1)
      have hz1 := Nat.lt_of_lt_of_le hz0 hb1.size
      clear hb1
      go_wp2_with fail
      go_at_call 33
      (with_reducible refine (station_is a _ _ h2.out).mono ?_)
      rintro e w9 ⟨rfl, rfl⟩
      obtain ⟨x0, x1, x2⟩ := Bx.four' X1.out
      have f0 := X1.out.f 0
      have f1 := X1.out.f 1
      have f2 := X1.out.f 2
      go_wp2_with fail
      refine bodyPost_ret (v := .tuple #[tbv (.slice none 0 0) 0 0, .int .i64 1]) (by simp [results, Try.results24, go_sem, x0, x1, x2]) rfl ⟨none, 0, 0, rfl, fun _ _ => TabS.empty _, ?_⟩
      exact below3 B1.out (by omega) _ _ _
    | true =>
      obtain rfl : r = true := by rw [← hr]; unfold unpinOk; rw [h1, h2]; first | done | rfl
      obtain ⟨oe, hoe⟩ : ∃ oe, findE (buck bs a) a = oe := ⟨_, rfl⟩
      have hxs : ∀ x, oe = some x → rightE x = true := fun x hx => (right_find h1 (hoe.trans hx)).1
      have hlook := Lib.hid fun W (hT : TabS W A n c bs) => look_any s ag a hT (macB_ad h2).1 (macB_ad h2).2 (right_sizes h1).1 (Nat.le_trans (right_buck_len h1 a) (by omega)) oe hoe
      replace hoe := Lib.hid hoe
      replace hxs := Lib.hid hxs
      replace h1 := Lib.hid h1
      replace h2 := Lib.hid h2
      clear hr
      go_enter Try.func24, Try.ntmps24
      go_wp2_with fail
      rw [← hw0]
      clear hw0
      go_at_call 12
      (with_reducible refine (hR.out).mono ?_)
      rintro e w1 ⟨rfl, hb1⟩
      have B1 := Lib.hid (bt B0 hb1)
      have X1 := Lib.hid (X.out.below hb1)
      have Y1 := Lib.hid (Y.out.below hb1)
      have T1 := Lib.hid (ht0.out.below hb1)
      have hz1 := Nat.lt_of_lt_of_le hz0 hb1.size
      clear hb1
      go_wp2_with fail
      go_at_call 33
      (with_reducible refine (station_is a _ _ h2.out).mono ?_)
      rintro e w9 ⟨rfl, rfl⟩
      obtain ⟨y0, y1, y2⟩ := Bx.four' Y1.out
      have hL := Lib.hid (hlook.out _ T1.out)
      go_wp2_with fail
      go_at_call 36
      (with_reducible refine hL.out.mono ?_)
      rintro e w5 ⟨rfl, hb5⟩
      have B5 := Lib.hid (bt B1.out hb5)
      have X5 := Lib.hid (X1.out.below hb5)
      have Y5 := Lib.hid (Y1.out.below hb5)
      have T5 := Lib.hid (T1.out.below hb5)
      have hz5 := Nat.lt_of_lt_of_le hz1 hb5.size
      clear hb5 y0 y1 y2 hL
      obtain ⟨z, hz⟩ : ∃ z, oe.getD zE = z := ⟨_, rfl⟩
      rw [hz]
      obtain ⟨wl, hwl⟩ : ∃ wl, wl = w5.alloc (eObj z.mac z.port z.seen z.st) := ⟨_, rfl⟩
      have BL : Below w5.heap.size w5 wl := by rw [hwl]; exact (Below.refl _ _).alloc (Nat.le_refl _) _
      have E6 : Bx wl w5.heap.size 57 #[.int .i64 z.mac, .int .i64 z.port, .int .i64 z.seen, .bool z.st] := by rw [hwl]; exact Bx.new _ _ _ rfl
      have B6 := Lib.hid (bt B5.out BL)
      have X6 := Lib.hid (X5.out.below BL)
      have Y6 := Lib.hid (Y5.out.below BL)
      have T6 := Lib.hid (T5.out.below BL)
      have hz6 := Nat.lt_of_lt_of_le hz5 BL.size
      have hze := E6.lt
      obtain ⟨y0, y1, y2⟩ := Bx.four' Y5.out
      have hly5 := Y5.out.lt
      obtain ⟨x0, x1, x2⟩ := Bx.four' X5.out
      have f0 := X5.out.f 0
      have f1 := X5.out.f 1
      have f2 := X5.out.f 2
      replace E6 := Lib.hid E6
      replace hz := Lib.hid hz
      clear BL
      obtain ⟨his, hhis⟩ : ∃ b, oe.isSome = b := ⟨_, rfl⟩
      rw [hhis]
      cases his with
      | false =>
        have hle : unpinO bs a = none := by
          unfold unpinO pinnedE; rw [hoe.out]
          cases oe with
          | none => rfl
          | some q => cases hhis
        replace hle := Lib.hid hle
        replace hhis := Lib.hid hhis
        go_wp2_with fail
        refine bodyPost_ret (v := .tuple #[tbv (.slice none 0 0) 0 0, .int .i64 4]) (by simp [results, Try.results24, go_sem, x0, x1, x2, hz5]) rfl ⟨none, 0, 0, by rw [hle.out]; rfl, by rw [hle.out]; exact fun _ _ => TabS.empty _, ?_⟩
        exact (below3 B5.out (by omega) _ _ _).alloc (by simp; omega) _
      | true =>
        have hzo : oe = some z := by
          cases oe with
          | none => cases hhis
          | some q => rw [← hz.out]; rfl
        cases hst : z.st with
        | false =>
          have hle : unpinO bs a = none := by
            unfold unpinO pinnedE; rw [hoe.out, hzo]
            simp [Option.filter, hst]
          rw [hst] at hwl
          replace hle := Lib.hid hle
          replace hhis := Lib.hid hhis
          replace hzo := Lib.hid hzo
          go_wp2_with fail
          refine bodyPost_ret (v := .tuple #[tbv (.slice none 0 0) 0 0, .int .i64 4]) (by simp [results, Try.results24, go_sem, x0, x1, x2, hz5]) rfl ⟨none, 0, 0, by rw [hle.out]; rfl, by rw [hle.out]; exact fun _ _ => TabS.empty _, ?_⟩
          exact (below3 B5.out (by omega) _ _ _).alloc (by simp; omega) _
        | true =>
          have hle : unpinO bs a = some (bs.map (keepL (isE z))) := by
            unfold unpinO pinnedE; rw [hoe.out, hzo]
            simp [Option.filter, hst]
          rw [hst] at hwl
          have hcall := Lib.hid (fdWithout _ _ unpin1_enters (isE z) s ag T6.out hs.1 hs.2 (unpin1_pred z w5.heap.size wl.heap.size wl E6.out E6.out.lt))
          replace hle := Lib.hid hle
          replace hhis := Lib.hid hhis
          replace hzo := Lib.hid hzo
          go_wp2_with fail
          (try simp only [hst])
          rw [← hwl]
          clear hst hwl y0 y1 y2 x0 x1 x2 f0 f1 f2
          go_at_call 51
          (with_reducible refine hcall.out.mono ?_)
          rintro e w7 ⟨g7, ps7, rfl, hot7, hrow7, hb7⟩
          have X7 := X6.out.below hb7
          have B7 := Lib.hid (bt B6.out hb7)
          obtain ⟨x0, x1, x2⟩ := Bx.four' X7
          have f0 := X7.f 0
          have f1 := X7.f 1
          have f2 := X7.f 2
          have hz7 := hb7.size
          have hln : (bs.map (keepL (isE z))).length = bs.length := List.length_map ..
          rw [hln] 
          have hfin := Lib.hid ((hot7.box3 X7 (.slice (some ⟨g7, 0, none⟩) bs.length bs.length) (.int .i64 s) (.int .i64 ag)).tabH (B' := w.heap.size) (by omega) hrow7 hln.symm)
          clear hb7 X7 hot7 hcall hln
          replace hrow7 := Lib.hid hrow7
          go_wp2_with fail
          refine bodyPost_ret (v := .tuple #[tbv (.slice (some ⟨g7, 0, none⟩) bs.length bs.length) s ag, .int .i64 0]) (by simp [results, Try.results24, go_sem, x0, x1, x2]) rfl ⟨_, _, _, by rw [hle.out]; rfl, ?_, ?_⟩
          · rw [hle.out]; exact hfin.out
          · exact below3 B7.out (by omega) _ _ _
end Go.Proofs.Ytnghilcjecjljaa.FdbP
