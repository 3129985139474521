/-
  fdb.lastToGo.
-/
import Derived.Test.YtnghilcjecjljaaFdbJ
namespace Go.Proofs.Ytnghilcjecjljaa.FdbP
open Go.RowKit Go.Sort Go.Proofs.Ytnghilcjecjljaa.SliceP Go.Proofs.Ytnghilcjecjljaa.MacP
open Go.Proofs.Ytnghilcjecjljaa.IntP (OwnI SlI RowI elI cI own_row cI_length cI_append)
set_option linter.unusedVariables false
set_option maxRecDepth 100000

/-- All that are not static, and of these the last one. -/
def dyn (l : List E) : List E := l.filter fun x => !x.st
def macsN (l : List E) : List Int := (dyn l).map E.mac
def lastO (l : List E) : Option E := (dyn l)[(dyn l).length - 1]?
/-- No two of one address, all addresses. -/
def Mono (l : List E) : Prop := (l.map E.mac).Nodup ∧ ∀ x ∈ l, 0 ≤ x.mac
theorem dyn_snoc {l : List E} {k : Nat} {x : E} (hx : l[k]? = some x) : dyn (l.take (k + 1)) = dyn (l.take k) ++ if x.st then [] else [x] := by
  unfold dyn
  rw [List.take_add_one, hx, List.filter_append]
  cases h : x.st <;> simp [h]
theorem macsN_snoc {l : List E} {k : Nat} {x : E} (hx : l[k]? = some x) (hs : x.st = false) : macsN (l.take (k + 1)) = macsN (l.take k) ++ [x.mac] := by
  unfold macsN; rw [dyn_snoc hx, hs]; simp
theorem macsN_skip {l : List E} {k : Nat} {x : E} (hx : l[k]? = some x) (hs : x.st = true) : macsN (l.take (k + 1)) = macsN (l.take k) := by
  unfold macsN; rw [dyn_snoc hx, hs]; simp
theorem macsN_len (l : List E) : (macsN l).length ≤ l.length := by unfold macsN dyn; rw [List.length_map]; exact List.length_filter_le _ _
theorem macsN_right {l : List E} (h : Mono l) (hl : l.length ≤ 64) : LruP.rightI (macsN l) = true := by
  unfold LruP.rightI LruP.okI
  have := macsN_len l
  rw [Bool.and_eq_true, decide_eq_true_eq, decide_eq_true_eq]
  refine ⟨by omega, ?_, ?_⟩
  · exact h.1.sublist ((List.filter_sublist).map _)
  · intro y hy
    obtain ⟨x, hx, rfl⟩ := List.mem_map.1 hy
    exact h.2 x (List.mem_filter.1 hx).1
theorem find_mono {l : List E} (h : Mono l) {x : E} (hx : x ∈ l) : findE l x.mac = some x := by
  have hn := h.1
  clear h
  induction l with
  | nil => cases hx
  | cons y l ih =>
    rw [List.map_cons, List.nodup_cons] at hn
    unfold findE isM
    rw [List.find?_cons]
    rcases List.mem_cons.1 hx with rfl | hx
    · simp
    · have hne : (y.mac == x.mac) = false := by
        rw [beq_eq_false_iff_ne]
        intro e
        exact hn.1 (by rw [e]; exact List.mem_map_of_mem hx)
      rw [hne]
      exact ih hx hn.2
theorem lastO_none {l : List E} (h : lastO l = none) : macsN l = [] := by
  unfold lastO at h
  rw [List.getElem?_eq_none_iff] at h
  unfold macsN
  have : (dyn l).length = 0 := by omega
  rw [List.length_eq_zero_iff.1 this]; rfl
theorem lastO_some {l : List E} {x : E} (h : lastO l = some x) : (macsN l)[(macsN l).length - 1]? = some x.mac ∧ x ∈ l ∧ x.st = false := by
  unfold lastO at h
  have hm := List.mem_of_getElem? h
  unfold dyn at hm
  rw [List.mem_filter] at hm
  refine ⟨?_, hm.1, by simpa using hm.2⟩
  unfold macsN
  rw [List.length_map, List.getElem?_map, h]; rfl
def EntB (w : World) (o : Option E) (e : Ending) (w' : World) : Prop := e = .returned (.tuple #[(o.getD zE).val, .bool o.isSome]) ∧ Below w.heap.size w w'
set_option maxHeartbeats 8000000 in
theorem lastToGo_any {A : Option Addr} {n c : Nat} {l : List E} {w : World} (hr : RowE w A n c l) (hl : l.length ≤ 64) (hm : Mono l) :
    Calls Try.prog 63 #[.slice A n c] w (EntB w (lastO l)) := by
  obtain rfl := hr.len
  obtain ⟨w0, hw0⟩ : ∃ w0, w0 = w.alloc (eObj 0 0 0 false) := ⟨_, rfl⟩
  have B0 : Below w.heap.size w w0 := by rw [hw0]; exact (Below.refl _ _).alloc (Nat.le_refl _) _
  have X : Bx w0 w.heap.size 57 #[.int .i64 0, .int .i64 0, .int .i64 0, .bool false] := by rw [hw0]; exact Bx.new w _ _ rfl
  have hz : w.heap.size < w0.heap.size := X.lt
  have HR := Lib.hid (hr.below B0)
  replace X := Lib.hid X
  replace hm := Lib.hid hm
  clear hr
  go_enter Try.func63, Try.ntmps63
  go_wp2_with fail
  rw [← hw0]
  clear hw0
  go_loopw [4, 11] (fun v i wr => ∃ k : Nat, k ≤ l.length ∧ i = .int .i64 k ∧ OwnI wr w0.heap.size v (macsN (l.take k)) ∧ Below w0.heap.size w0 wr) (fun _ i _ => l.length - (intOf i).toNat)
  case atStart => exact ⟨0, by omega, rfl, Own.nil _ _ _ _, Below.refl _ _⟩
  case round =>
    obtain ⟨k, hk, rfl, hown, hb⟩ := hrel
    replace hown := Lib.hid hown
    by_cases hlk : k < l.length
    · obtain ⟨x, hx⟩ : ∃ x, l[k]? = some x := ⟨_, List.getElem?_eq_getElem hlk⟩
      obtain ⟨b, o, rfl, hbw, x0, x1, x2, x3⟩ := RowE.at_ (HR.out.below hb) hx
      have hs := hb.size
      obtain ⟨W, hW⟩ : ∃ W, W = wr.alloc (eObj x.mac x.port x.seen x.st) := ⟨_, rfl⟩
      have BW : Below wr.heap.size wr W := by rw [hW]; exact (Below.refl _ _).alloc (Nat.le_refl _) _
      have XW : Bx W wr.heap.size 57 #[.int .i64 x.mac, .int .i64 x.port, .int .i64 x.seen, .bool x.st] := by rw [hW]; exact Bx.new _ _ _ rfl
      have hzW : wr.heap.size < W.heap.size := XW.lt
      have bW := hb.trans (BW.mono hs)
      have y0 := XW.c (i := 0) rfl
      have y3 := XW.c (i := 3) rfl
      have ownW := Lib.hid (hown.out.below BW)
      clear XW
      cases hst : x.st with
      | true =>
        have hn := Lib.hid (macsN_skip hx hst)
        rw [hst] at x3 hW y3
        clear hx hst
        go_wp2_with fail
        rw [← hW]
        clear hW x0 x1 x2 x3
        go_roundw
        case rel => exact ⟨k + 1, by omega, by go_num, by rw [hn.out]; exact ownW.out, bW⟩
        case measure => simp [intOf]; omega
      | false =>
        have hn := Lib.hid (macsN_snoc hx hst)
        rw [hst] at x3 hW y3
        clear hx hst
        have own2 := Lib.hid (ownW.out.below ((Below.refl _ _).alloc (Nat.le_refl _) (.cells #[.int .i64 x.mac] 3)))
        have hlen := macsN_len (l.take k)
        rw [List.length_take] at hlen
        have hn1 : Hid ((cI (macsN (l.take k))).length + (cI [x.mac]).length ≤ 1000000) := Lib.hid (by rw [cI_length, cI_length]; simp; omega)
        have hB2 : Hid (w0.heap.size ≤ (W.alloc (.cells #[.int .i64 x.mac] 3)).heap.size) := Lib.hid (by simp; omega)
        have hsl := Lib.hid (IntP.SlI.one W x.mac (wr.heap.size + 1) (by rw [hW]; simp))
        replace hlen := Lib.hid hlen
        rw [hW] at own2 hB2 hsl
        go_wp2_with (at_builtin; (refine wpList_append_sl rfl (.tmp 18) (.tmp 21) 52 rfl elI (by rfl) own2.out (by rfl) (by rfl) hsl.out (IntP.whole [x.mac]) (fun h => by cases h) hn1.out hB2.out ?_); intro v' w1 own1 grow1 _)
        have B1 : Below w0.heap.size w0 w1 := by
          rw [← hW] at grow1
          exact (bW.alloc (by omega) _).grown grow1 (by simp; omega) (fun k hk => (hown.out.lt k hk).1)
        go_roundw
        case rel => exact ⟨k + 1, by omega, by go_num, by rw [hn.out]; rw [← cI_append] at own1; exact own1, B1⟩
        case measure => simp [intOf]; omega
    · obtain rfl : k = l.length := by omega
      rw [List.take_length] at hown
      have Br := bt B0 hb
      obtain ⟨A9, c9, hv, _⟩ := hown.out.form
      rw [cI_length] at hv
      subst hv
      have hrow := Lib.hid (own_row hown.out)
      have hR := Lib.hid (HR.out.below hb)
      have XB := Lib.hid (X.out.below hb)
      have hmr := Lib.hid (macsN_right hm.out hl)
      have hml : (macsN l).length ≤ 1000 := by have := macsN_len l; omega
      obtain ⟨o9, ho⟩ : ∃ o, lastO l = o := ⟨_, rfl⟩
      have hlo := Lib.hid ho
      cases o9 with
      | none =>
        have hcall := Lib.hid (LruP.oldest_good hrow.out hml hmr.out 0 4 (.inl ⟨lastO_none ho, rfl, rfl⟩))
        clear ho hown hmr
        go_wp2_with fail
        go_at_call 79
        (with_reducible refine hcall.out.mono ?_)
        rintro e w1 ⟨rfl, hb1⟩
        have B1 := Lib.hid (bt Br hb1)
        have X1 := XB.out.below hb1
        have z0 := X1.c (i := 0) rfl
        have z1 := X1.c (i := 1) rfl
        have z2 := X1.c (i := 2) rfl
        have z3 := X1.c (i := 3) rfl
        have f0 := X1.f 0
        have f1 := X1.f 1
        have f2 := X1.f 2
        have f3 := X1.f 3
        clear hb1 X1 XB hcall
        go_wp2_with fail
        refine bodyPost_ret (v := .tuple #[ev 0 0 0 false, .bool false]) (by simp [results, Try.results63, go_sem, z0, z1, z2, z3]) rfl ⟨by rw [hlo.out]; rfl, ?_⟩
        repeat (first | with_reducible exact B1.out | refine Below.setCell ?_ (by first | omega | (simp; done) | (simp; omega)) _)
      | some x =>
        obtain ⟨h1, h2, h3⟩ := lastO_some ho
        have hcall := Lib.hid (LruP.oldest_good hrow.out hml hmr.out x.mac 0 (.inr ⟨h1, rfl⟩))
        have hfd := Lib.hid (find_mono hm.out h2)
        clear ho hown hmr h1 h2 h3
        go_wp2_with fail
        go_at_call 79
        (with_reducible refine hcall.out.mono ?_)
        rintro e w1 ⟨rfl, hb1⟩
        have B1 := Lib.hid (bt Br hb1)
        have X1 := Lib.hid (XB.out.below hb1)
        have hE := Lib.hid (entryOf_any (hR.out.below hb1) (by omega) x.mac _ hfd.out)
        clear hb1 XB hcall hR
        go_wp2_with fail
        go_at_call 60
        (with_reducible refine hE.out.mono ?_)
        rintro e w2 ⟨rfl, hb2⟩
        have B2 := Lib.hid (bt B1.out hb2)
        have X2 := X1.out.below hb2
        have z0 := X2.c (i := 0) rfl
        have z1 := X2.c (i := 1) rfl
        have z2 := X2.c (i := 2) rfl
        have z3 := X2.c (i := 3) rfl
        have f0 := X2.f 0
        have f1 := X2.f 1
        have f2 := X2.f 2
        have f3 := X2.f 3
        clear hb2 X2 X1 hE B1
        go_wp2_with fail
        refine bodyPost_ret (v := .tuple #[x.val, .bool true]) (by simp [results, Try.results63, go_sem, z0, z1, z2, z3]) rfl ⟨by rw [hlo.out]; rfl, ?_⟩
        repeat (first | with_reducible exact B2.out | refine Below.setCell ?_ (by first | omega | (simp; done) | (simp; omega)) _)
end Go.Proofs.Ytnghilcjecjljaa.FdbP
