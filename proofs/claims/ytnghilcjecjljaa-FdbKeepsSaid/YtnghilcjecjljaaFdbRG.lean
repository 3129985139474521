/-
  Contract of footwayref08.put.
-/
import Derived.Test.YtnghilcjecjljaaFdbRA
import Derived.Test.YtnghilcjecjljaaRegFree
import Derived.ArgAppend
import Derived.Test.YtnghilcjecjljaaFdbV
namespace Go.Proofs.Ytnghilcjecjljaa.FdbP
open Go.RowKit Go.Sort Go.Proofs.Ytnghilcjecjljaa.SliceP Go.Proofs.Ytnghilcjecjljaa.MacP
set_option linter.unusedVariables false
set_option maxRecDepth 100000

/-- append to a literal of one entry. -/
theorem run_app_lit {W : World} {g : Nat} {x : E} {A : Option Addr} {n c : Nat} {l : List E} (ho : OwnE W g (.slice (some ⟨g, 0, none⟩) 1 1) [x]) (hr : RowE W A n c l) (hl : l.length ≤ 100000) (ty : TypeId) :
    ∃ v' W', (Builtin.append_ #[55, 55] ty #[.slice (some ⟨g, 0, none⟩) 1 1, .slice A n c]).run Try.prog W = .ok v' W' ∧ OwnE W' g v' (x :: l) ∧ Below W.heap.size W W' := by
  obtain rfl := hr.len
  obtain ⟨i, z, hi, hz, hsz, hby, hzs⟩ := elE.inf
  have hg : g < W.heap.size := (ho.lt g rfl).2
  cases A with
  | none =>
    obtain rfl : c = 0 := hr.nil rfl
    have hl0 : l = [] := by
      rcases l with _ | ⟨y, ys⟩
      · rfl
      · obtain ⟨b, o, h1, _⟩ := hr.sl (by simp)
        cases h1
    subst hl0
    exact ⟨_, _, run_append_owned_none (P := Try.prog) W g 55 ty 57 i 4 elE.und hi _ 1 _ ho.row, ho, Below.refl _ _⟩
  | some a =>
    by_cases hl0 : l = []
    · subst hl0
      have := run_append_room_cells (P := Try.prog) W 55 ty 57 i elE.und hi g 0 1 1 a 0 c [] (by simp) (fun j u h => by simp at h) (fun u h => by cases h) (by omega) (fun j h => by simp at h) (fun j h => by simp at h)
      exact ⟨_, _, this, ho, Below.refl _ _⟩
    · have hpos : 0 < l.length := List.length_pos_iff.2 hl0
      have hsl := ho.sl (by decide)
      have hws := wholeE l
      obtain ⟨v', W', h1, h2, h3⟩ := run_append_arg_grows (P := Try.prog) W 55 ty 57 i z 4 i.bytes elE.und hi hz hsz rfl hzs (by decide) ⟨g, 0, none⟩ 1 1 ([x].map E.cells).flatten rfl (fun j u h => Sl.flat_at hsl (wholeE [x]) (by decide) j u h) a l.length c (l.map E.cells).flatten
        (by rw [flatten_length _ 4 (fun cs hc => (hws cs hc).1), List.length_map])
        (fun j u h => by
          obtain ⟨b, o, h1, _⟩ := hr.sl (by simpa using hl0)
          obtain rfl : a = ⟨b, o, none⟩ := by simpa using h1
          exact Sl.flat_at hr.sl hws (by decide) j u h)
        (by omega) (by unfold maxLen; omega) (by
          have : (1 + l.length) * i.bytes ≤ 1000000 * 64 := Nat.mul_le_mul (by omega) hby
          omega)
      have hB : Below W.heap.size W W' := ⟨h3.os, h3.tape, h3.output, h3.size, fun k hk => h3.block k hk (by simp)⟩
      refine ⟨v', W', h1, Own.base (B := W.heap.size) ⟨?_, wholeE (x :: l)⟩ (Nat.le_of_lt hg), hB⟩
      have e1 : ((x :: l).map E.cells).length = 1 + l.length := by simp; omega
      have e2 : ((x :: l).map E.cells).flatten = ([x].map E.cells).flatten ++ (l.map E.cells).flatten := by simp
      rw [e1, e2]
      exact h2
theorem wp_app_lit {W : World} {g : Nat} {x : E} {A : Option Addr} {n c : Nat} {l : List E} {o : Oper} {a : Act} {K : Act → World → Prop} {Q : Exit → Act → World → Prop} (s y : Operand)
    (ho : o.op = .call { callee := .builtin .append, args := #[s, y], argTypes := #[55, 55] }) (hs : a.eval s = .slice (some ⟨g, 0, none⟩) 1 1) (hy : a.eval y = .slice A n c)
    (hown : OwnE W g (.slice (some ⟨g, 0, none⟩) 1 1) [x]) (hr : RowE W A n c l) (hl : l.length ≤ 100000) (hK : ∀ v' W', OwnE W' g v' (x :: l) → Below W.heap.size W W' → K (a.put o.dst v') W') : o.wp Try.prog a W K Q := by
  obtain ⟨v', W', hrun, h2, h3⟩ := run_app_lit hown hr hl o.type
  unfold Oper.wp execOp
  simp only [ho, resolve, invoke, builtin, Sem.run_bind, Sem.run_pure, Result.andThen_ok, List.map_toArray, List.map_cons, List.map_nil, hs, hy, hrun]
  exact hK v' W' h2 h3
def rKey (l : List E) : Int := (l.getD (lastK l l.length).toNat zE).mac
def rPutL (l : List E) (s : Int) (x : E) : Option (List E) :=
  if ((l.length : Int) == s) = true then (if lastK l l.length < 0 then none else some (x :: keepL (isM (rKey l)) l)) else some (x :: l)
/-- The last one that is not static. -/
theorem lastK_spec (l : List E) : ∀ n, n ≤ l.length → (lastK l n = -1 ∧ ∀ (j : Nat) (z : E), j < n → l[j]? = some z → z.st = true) ∨ ∃ (k : Nat) (y : E), lastK l n = (k : Int) ∧ k < n ∧ l[k]? = some y ∧ y.st = false ∧ ∀ (j : Nat) (z : E), k < j → j < n → l[j]? = some z → z.st = true
  | 0, _ => .inl ⟨rfl, fun j z h => absurd h (by omega)⟩
  | n + 1, hn => by
    obtain ⟨x, hx⟩ : ∃ x, l[n]? = some x := ⟨_, List.getElem?_eq_getElem (by omega)⟩
    have e : lastK l (n + 1) = if x.st then lastK l n else (n : Int) := by
      conv => lhs; unfold lastK
      rw [hx]
    rw [e]
    cases hst : x.st with
    | false => exact .inr ⟨n, x, rfl, by omega, hx, hst, fun j z h1 h2 => absurd h2 (by omega)⟩
    | true =>
      rw [if_pos rfl]
      rcases lastK_spec l n (by omega) with ⟨h1, h2⟩ | ⟨k, y, h1, h2, h3, h4, h5⟩
      · refine .inl ⟨h1, fun j z hj hz => ?_⟩
        by_cases hjn : j = n
        · subst hjn
          rw [hx] at hz
          obtain rfl := Option.some.inj hz
          exact hst
        · exact h2 j z (by omega) hz
      · refine .inr ⟨k, y, h1, by omega, h3, h4, fun j z hj hj2 hz => ?_⟩
        by_cases hjn : j = n
        · subst hjn
          rw [hx] at hz
          obtain rfl := Option.some.inj hz
          exact hst
        · exact h5 j z hj (by omega) hz
def rPutO (bs : List (List E)) (s : Int) (x : E) : Option (List (List E)) := (rPutL (keepL (isM x.mac) (buck bs x.mac)) s x).map fun l => bs.set (bucketI x.mac bs.length).toNat l
def RetPO (S : Nat → Prop) (w : World) (o : Option (List (List E))) (bs : List (List E)) (s ag : Int) (e : Ending) (w' : World) : Prop := ∃ A n c, e = .returned (.tuple #[tbv (.slice A n c) s ag, .bool o.isSome]) ∧ TabO S w' A n c (o.getD bs) ∧ Below w.heap.size w w'
def IsRow (l : List E) (v : Value) (W : World) : Prop := ∃ A n c, v = .slice A n c ∧ RowE W A n c l
theorem IsRow.below {l : List E} {v : Value} {w w' : World} (h : IsRow l v w) (hb : Below w.heap.size w w') : IsRow l v w' := by
  obtain ⟨A, n, c, h1, h2⟩ := h
  exact ⟨A, n, c, h1, h2.below hb⟩
def IsRowS (S : Nat → Prop) (l : List E) (v : Value) (W : World) : Prop := ∃ A n c, v = .slice A n c ∧ RowS S W A n c l
def IsTabO (S : Nat → Prop) (s ag : Int) (bs : List (List E)) (v : Value) (W : World) : Prop := ∃ A n c, v = tbv (.slice A n c) s ag ∧ TabO S W A n c bs
theorem IsRowS.below {S : Nat → Prop} {l : List E} {v : Value} {w w' : World} (h : IsRowS S l v w) (hb : Below w.heap.size w w') : IsRowS S l v w' := by
  obtain ⟨A, n, c, h1, h2⟩ := h
  exact ⟨A, n, c, h1, h2.below hb⟩
theorem IsTabO.below {S : Nat → Prop} {s ag : Int} {bs : List (List E)} {v : Value} {w w' : World} (h : IsTabO S s ag bs v w) (hb : Below w.heap.size w w') : IsTabO S s ag bs v w' := by
  obtain ⟨A, n, c, h1, h2⟩ := h
  exact ⟨A, n, c, h1, h2.below hb⟩
def spR1 (TV : Value) (q1 : Nat) (m : Int) (l0 l1 : List E) (i : Nat) (v : Value) (W : World) : Prop := match i with
  | 0 => v = TV
  | 1 => v = .pointer (some ⟨q1, 0, none⟩)
  | 2 => v = .int .i64 m
  | 3 => IsRow l0 v W
  | 4 => v = .pointer (some ⟨q1, 0, none⟩)
  | 5 => v = .int .i64 m
  | 6 => IsRow l1 v W
  | 7 => IsRow l1 v W
  | _ => True
theorem spR1_mono {TV : Value} {q1 : Nat} {m : Int} {l0 l1 : List E} (i : Nat) (v : Value) (w w' : World) (h : spR1 TV q1 m l0 l1 i v w) (hb : Below w.heap.size w w') : spR1 TV q1 m l0 l1 i v w' := by
  match i with
  | 0 | 1 | 2 | 4 | 5 => exact h
  | 3 | 6 | 7 => exact IsRow.below h hb
  | n + 8 => exact trivial
def spR8 (S : Nat → Prop) (TV R6 : Value) (q1 g : Nat) (m s ag : Int) (l : List E) (bs : List (List E)) (i : Nat) (v : Value) (W : World) : Prop := match i with
  | 0 => v = TV
  | 1 => v = .pointer (some ⟨q1, 0, none⟩)
  | 2 => v = .int .i64 m
  | 3 => v = .slice (some ⟨g, 0, none⟩) 1 1
  | 4 => v = R6
  | 5 => IsRowS S l v W
  | 6 => IsTabO S s ag bs v W
  | _ => True
theorem spR8_mono {S : Nat → Prop} {TV R6 : Value} {q1 g : Nat} {m s ag : Int} {l : List E} {bs : List (List E)} (i : Nat) (v : Value) (w w' : World) (h : spR8 S TV R6 q1 g m s ag l bs i v w) (hb : Below w.heap.size w w') : spR8 S TV R6 q1 g m s ag l bs i v w' := by
  match i with
  | 0 | 1 | 2 | 3 | 4 => exact h
  | 5 => exact IsRowS.below h hb
  | 6 => exact IsTabO.below h hb
  | n + 7 => exact trivial
set_option maxHeartbeats 16000000 in
theorem r_put {S : Nat → Prop} {A : Option Addr} {n c : Nat} {bs : List (List E)} (s ag : Int) (x : E) {w : World} (ht : TabO S w A n c bs) (hs : Small bs) (hbl : ∀ l ∈ bs, l.length ≤ 100000) (hn : numB (bs.length : Int) = true) (hm : macB x.mac = true) (hS : ∀ b, S b → b < w.heap.size) :
    Calls Try.prog 49 #[tbv (.slice A n c) s ag, x.val] w (RetPO S w (rPutO bs s x) bs s ag) := by
  obtain ⟨kk, hk1, hk2, hk3⟩ := buck_at (a := x.mac) hn
  have hb0 := hbl _ (List.mem_of_getElem? hk3)
  obtain ⟨w0, hw0⟩ : ∃ w0, w0 = ((w.alloc (tObj (.slice A n c) s ag)).alloc (eObj x.mac x.port x.seen x.st)).alloc (tObj (.slice none 0 0) 0 0) := ⟨_, rfl⟩
  have B0 : Below w.heap.size w w0 := by rw [hw0]; exact (((Below.refl _ _).alloc (Nat.le_refl _) _).alloc (by simp) _).alloc (by simp; omega) _
  have Y := Lib.hid (show Bx w0 w.heap.size TT #[.slice A n c, .int .i64 s, .int .i64 ag] by rw [hw0]; exact ((Bx.new w _ _ rfl).alloc _).alloc _)
  have Z := Lib.hid (show Bx w0 (w.heap.size + 1) ET #[.int .i64 x.mac, .int .i64 x.port, .int .i64 x.seen, .bool x.st] by rw [hw0]; exact (Bx.new _ _ _ (by simp)).alloc _)
  have X := Lib.hid (show Bx w0 (w.heap.size + 1 + 1) TT #[.slice none 0 0, .int .i64 0, .int .i64 0] by rw [hw0]; exact Bx.new _ _ _ (by simp))
  obtain ⟨q1, hq1⟩ : ∃ q, q = w.heap.size + 1 := ⟨_, rfl⟩
  obtain ⟨q2, hq2⟩ : ∃ q, q = w.heap.size + 1 + 1 := ⟨_, rfl⟩
  have hT : TabO (fun b => S b ∨ b = q2) w A n c bs := ht.add (fun b hb => by subst hb; rw [hq2]; omega)
  have hTW := Lib.hid (fun W (hB : Below w.heap.size w W) => hT.below hB)
  have hS2 : Hid (∀ W : World, w0.heap.size ≤ W.heap.size → ∀ b, (S b ∨ b = q2) → b < W.heap.size) := Lib.hid fun W hW b hb => by
    have := X.out.lt
    rcases hb with hb | hb
    · have := hS b hb; omega
    · subst hb; omega
  obtain ⟨l0, hl0⟩ : ∃ l, buck bs x.mac = l := ⟨_, rfl⟩
  obtain ⟨l1, hl1⟩ : ∃ l, keepL (isM x.mac) l0 = l := ⟨_, rfl⟩
  have hll1 : l1.length ≤ 100000 := by rw [← hl1]; have := keepL_le (isM x.mac) l0; rw [hl0] at hb0; omega
  have hpo : rPutO bs s x = (rPutL l1 s x).map fun l => bs.set (bucketI x.mac bs.length).toNat l := by unfold rPutO; rw [hl0, hl1]
  rw [hpo]
  have hbk := Lib.hid fun W (hB : Below w.heap.size w W) => (by have := r_buck s ag x.mac (hTW.out W hB).tab hn hm; rwa [hl0] at this : Calls Try.prog 47 #[tbv (.slice A n c) s ag, .int .i64 x.mac] W (RetRow W l0))
  have hwi := Lib.hid fun W (hB : Below w.heap.size w W) (hW : w0.heap.size ≤ W.heap.size) (A6 : Option Addr) (n6 c6 : Nat) (l : List E) (hr : RowS (fun b => S b ∨ b = q2) W A6 n6 c6 l) => r_withS s ag x.mac (hTW.out W hB) hr (hS2.out W hW) hn hm
  rw [hl0] at hb0
  rw [← hq2] at X
  rw [← hq1] at Z
  replace hl1 := Lib.hid hl1
  replace hll1 := Lib.hid hll1
  have hz0 : w.heap.size < w0.heap.size := Y.out.lt
  have hz1 : q1 < w0.heap.size := Z.out.lt
  have hz2 : q2 < w0.heap.size := X.out.lt
  have hq3 : w.heap.size ≤ q2 := by omega
  have hq4 : w.heap.size ≤ q1 := by omega
  have e1 := Lib.hid hq1
  have e2 := Lib.hid hq2
  replace hb0 := Lib.hid hb0
  replace B0 := Lib.hid B0
  clear ht hs hbl hn hm hS hk1 hk2 hk3 hl0 hT hpo
  go_enter Try.func49, Try.ntmps49
  go_wp2_with fail
  rw [← e2.out, ← e1.out, ← hw0]
  clear hw0 hq1 hq2
  obtain ⟨y0, y1, y2⟩ := Bx.four' Y.out
  have z0 := Z.out.c (i := 0) rfl
  refine wp_region_opsG (by kernel_rfl) (fun ix => match ix with | 0 => 9 | 1 => 10 | 2 => 11 | 3 => 12 | 4 => 13 | 5 => 14 | 6 => 15 | 7 => 6 | _ => 0) [] (by kernel_rfl) (by kernel_rfl) (spR1 (tbv (.slice A n c) s ag) q1 x.mac l0 l1) spR1_mono (fun g hg => by cases hg) ?_ ?_
  refine ⟨?_, ?_, ?_, ?_, ?_, ?_, ?_, ?_, trivial⟩
  · as_aux_lemma =>
      intro a9 W2 K hb hdep hk hK
      replace hK : ∀ v w', spR1 (tbv (.slice A n c) s ag) q1 x.mac l0 l1 0 v w' → Below W2.heap.size W2 w' → K (a9.put (some 9) v) w' := hK
      have d2 : a9.tmps.getD 2 undef = .pointer (some ⟨w.heap.size, 0, none⟩) := hk 2 (by kernel_rfl)
      have t0 := (hb.cell (p := ⟨w.heap.size, 0, none⟩) hz0).trans y0
      have t1 := (hb.cell (p := ⟨w.heap.size, 1, none⟩) hz0).trans y1
      have t2 := (hb.cell (p := ⟨w.heap.size, 2, none⟩) hz0).trans y2
      clear hdep hk
      go_simp
      exact hK _ _ rfl (Below.refl _ _)
  · as_aux_lemma =>
      intro a9 W2 K hb hdep hk hK
      replace hK : ∀ v w', spR1 (tbv (.slice A n c) s ag) q1 x.mac l0 l1 1 v w' → Below W2.heap.size W2 w' → K (a9.put (some 10) v) w' := hK
      have d3 : a9.tmps.getD 3 undef = .pointer (some ⟨q1, 0, none⟩) := hk 3 (by kernel_rfl)
      clear hdep hk
      go_simp
      exact hK _ _ rfl (Below.refl _ _)
  · as_aux_lemma =>
      intro a9 W2 K hb hdep hk hK
      replace hK : ∀ v w', spR1 (tbv (.slice A n c) s ag) q1 x.mac l0 l1 2 v w' → Below W2.heap.size W2 w' → K (a9.put (some 11) v) w' := hK
      have d10 : a9.tmps.getD 10 undef = .pointer (some ⟨q1, 0, none⟩) := hdep ⟨1, .data⟩ (by simp) rfl
      have t0 := (hb.cell (p := ⟨q1, 0, none⟩) hz1).trans z0
      clear hdep hk
      go_simp
      exact hK _ _ rfl (Below.refl _ _)
  · as_aux_lemma =>
      intro a9 W2 K hb hdep hk hK
      replace hK : ∀ v w', spR1 (tbv (.slice A n c) s ag) q1 x.mac l0 l1 3 v w' → Below W2.heap.size W2 w' → K (a9.put (some 12) v) w' := hK
      have d9 : a9.tmps.getD 9 undef = tbv (.slice A n c) s ag := hdep ⟨0, .data⟩ (by simp) rfl
      have d11 : a9.tmps.getD 11 undef = .int .i64 x.mac := hdep ⟨2, .data⟩ (by simp) rfl
      have hcall := Lib.hid (hbk.out W2 (bt B0.out hb))
      clear hdep hk
      have q9 : a9.tmps[9]?.getD undef = tbv (.slice A n c) s ag := by simpa [Array.getD_eq_getD_getElem?] using d9
      clear d9
      go_simp
      refine hcall.out.mono ?_
      rintro e w9 ⟨A8, n8, c8, rfl, r1, r2⟩
      exact hK _ _ ⟨A8, n8, c8, rfl, r1⟩ r2
  · as_aux_lemma =>
      intro a9 W2 K hb hdep hk hK
      replace hK : ∀ v w', spR1 (tbv (.slice A n c) s ag) q1 x.mac l0 l1 4 v w' → Below W2.heap.size W2 w' → K (a9.put (some 13) v) w' := hK
      have d3 : a9.tmps.getD 3 undef = .pointer (some ⟨q1, 0, none⟩) := hk 3 (by kernel_rfl)
      clear hdep hk
      go_simp
      exact hK _ _ rfl (Below.refl _ _)
  · as_aux_lemma =>
      intro a9 W2 K hb hdep hk hK
      replace hK : ∀ v w', spR1 (tbv (.slice A n c) s ag) q1 x.mac l0 l1 5 v w' → Below W2.heap.size W2 w' → K (a9.put (some 14) v) w' := hK
      have d13 : a9.tmps.getD 13 undef = .pointer (some ⟨q1, 0, none⟩) := hdep ⟨4, .data⟩ (by simp) rfl
      have t0 := (hb.cell (p := ⟨q1, 0, none⟩) hz1).trans z0
      clear hdep hk
      go_simp
      exact hK _ _ rfl (Below.refl _ _)
  · as_aux_lemma =>
      intro a9 W2 K hb hdep hk hK
      replace hK : ∀ v w', spR1 (tbv (.slice A n c) s ag) q1 x.mac l0 l1 6 v w' → Below W2.heap.size W2 w' → K (a9.put (some 15) v) w' := hK
      obtain ⟨A8, n8, c8, d12, r1⟩ : IsRow l0 (a9.tmps.getD 12 undef) W2 := hdep ⟨3, .data⟩ (by simp) rfl
      have d14 : a9.tmps.getD 14 undef = .int .i64 x.mac := hdep ⟨5, .data⟩ (by simp) rfl
      have hcall := r_without r1 hb0.out x.mac
      rw [hl1.out] at hcall
      replace hcall := Lib.hid hcall
      clear hdep hk
      have q12 : a9.tmps[12]?.getD undef = .slice A8 n8 c8 := by simpa [Array.getD_eq_getD_getElem?] using d12
      clear d12
      go_simp
      refine hcall.out.mono ?_
      rintro e w9 ⟨A7, n7, c7, rfl, r3, r4⟩
      exact hK _ _ ⟨A7, n7, c7, rfl, r3⟩ r4
  · as_aux_lemma =>
      intro a9 W2 K hb hdep hk hK
      replace hK : ∀ v w', spR1 (tbv (.slice A n c) s ag) q1 x.mac l0 l1 7 v w' → Below W2.heap.size W2 w' → K (a9.put (some 6) v) w' := hK
      obtain ⟨A8, n8, c8, d15, r1⟩ : IsRow l1 (a9.tmps.getD 15 undef) W2 := hdep ⟨6, .data⟩ (by simp) rfl
      clear hdep hk
      have q15 : a9.tmps[15]?.getD undef = .slice A8 n8 c8 := by simpa [Array.getD_eq_getD_getElem?] using d15
      clear d15
      go_simp
      exact hK _ _ ⟨A8, n8, c8, rfl, r1⟩ (Below.refl _ _)
  intro a W1 hb1 hsp hk hn hdf
  obtain ⟨A6, n6, c6, h6, R1⟩ : IsRow l1 (a.tmps.getD 6 undef) W1 := hsp 7 (by decide)
  clear hsp y0 y1 y2 z0
  have s0 : a.tmps.getD 0 undef = tbv (.slice A n c) s ag := hk 0 (by kernel_rfl)
  have s1 : a.tmps.getD 1 undef = x.val := hk 1 (by kernel_rfl)
  have s2 : a.tmps.getD 2 undef = .pointer (some ⟨w.heap.size, 0, none⟩) := hk 2 (by kernel_rfl)
  have s3 : a.tmps.getD 3 undef = .pointer (some ⟨q1, 0, none⟩) := hk 3 (by kernel_rfl)
  have s4 : a.tmps.getD 4 undef = .pointer (some ⟨q2, 0, none⟩) := hk 4 (by kernel_rfl)
  have s5 : a.tmps.getD 5 undef = .bool false := hk 5 (by kernel_rfl)
  have s6 : a.tmps.getD 6 undef = .slice A6 n6 c6 := h6
  clear hk h6
  obtain ⟨tm, df⟩ := a
  have e := arr_out tm 42 hn
  replace e : tm = #[tm.getD 0 undef, tm.getD 1 undef, tm.getD 2 undef, tm.getD 3 undef, tm.getD 4 undef, tm.getD 5 undef, tm.getD 6 undef, tm.getD 7 undef, tm.getD 8 undef, tm.getD 9 undef, tm.getD 10 undef, tm.getD 11 undef, tm.getD 12 undef, tm.getD 13 undef, tm.getD 14 undef, tm.getD 15 undef, tm.getD 16 undef, tm.getD 17 undef, tm.getD 18 undef, tm.getD 19 undef, tm.getD 20 undef, tm.getD 21 undef, tm.getD 22 undef, tm.getD 23 undef, tm.getD 24 undef, tm.getD 25 undef, tm.getD 26 undef, tm.getD 27 undef, tm.getD 28 undef, tm.getD 29 undef, tm.getD 30 undef, tm.getD 31 undef, tm.getD 32 undef, tm.getD 33 undef, tm.getD 34 undef, tm.getD 35 undef, tm.getD 36 undef, tm.getD 37 undef, tm.getD 38 undef, tm.getD 39 undef, tm.getD 40 undef, tm.getD 41 undef] := e
  simp only at s0 s1 s2 s3 s4 s5 s6 hdf
  rw [s0, s1, s2, s3, s4, s5, s6] at e
  subst hdf
  clear s0 s1 s2 s3 s4 s5 s6 hn
  generalize tm.getD 7 undef = u7 at e
  generalize tm.getD 8 undef = u8 at e
  generalize tm.getD 9 undef = u9 at e
  generalize tm.getD 10 undef = u10 at e
  generalize tm.getD 11 undef = u11 at e
  generalize tm.getD 12 undef = u12 at e
  generalize tm.getD 13 undef = u13 at e
  generalize tm.getD 14 undef = u14 at e
  generalize tm.getD 15 undef = u15 at e
  generalize tm.getD 16 undef = u16 at e
  generalize tm.getD 17 undef = u17 at e
  generalize tm.getD 18 undef = u18 at e
  generalize tm.getD 19 undef = u19 at e
  generalize tm.getD 20 undef = u20 at e
  generalize tm.getD 21 undef = u21 at e
  generalize tm.getD 22 undef = u22 at e
  generalize tm.getD 23 undef = u23 at e
  generalize tm.getD 24 undef = u24 at e
  generalize tm.getD 25 undef = u25 at e
  generalize tm.getD 26 undef = u26 at e
  generalize tm.getD 27 undef = u27 at e
  generalize tm.getD 28 undef = u28 at e
  generalize tm.getD 29 undef = u29 at e
  generalize tm.getD 30 undef = u30 at e
  generalize tm.getD 31 undef = u31 at e
  generalize tm.getD 32 undef = u32 at e
  generalize tm.getD 33 undef = u33 at e
  generalize tm.getD 34 undef = u34 at e
  generalize tm.getD 35 undef = u35 at e
  generalize tm.getD 36 undef = u36 at e
  generalize tm.getD 37 undef = u37 at e
  generalize tm.getD 38 undef = u38 at e
  generalize tm.getD 39 undef = u39 at e
  generalize tm.getD 40 undef = u40 at e
  generalize tm.getD 41 undef = u41 at e
  subst e
  simp only [Exit.then]
  have B1 := Lib.hid (bt B0.out hb1)
  have Y1 := Lib.hid (Y.out.below hb1)
  have Z1 := Lib.hid (Z.out.below hb1)
  have X1 := Lib.hid (X.out.below hb1)
  have hW1 := Lib.hid hb1.size
  have hl6 := R1.len
  have hcap6 := R1.cap
  replace R1 := Lib.hid R1
  clear hb1 Y Z X B0 hbk hb0 hl1
  obtain ⟨y0, y1, y2⟩ := Bx.four' Y1.out
  have hy1 := Y1.out.lt
  have hz9 := Z1.out.lt
  have hx9 := X1.out.lt
  clear hz0 hz1 hz2
  obtain rfl := hl6
  cases hfull : (l1.length : Int) == s with
  | false =>
    have hres : Hid (rPutL l1 s x = some (x :: l1)) := Lib.hid (by unfold rPutL; rw [hfull]; rfl)
    have Yc := Y1
    have Zc := Z1
    have Xc := X1
    have hlx : Hid ((l1).length ≤ 100000) := hll1
    obtain ⟨z0, z1, z2, z3⟩ : W1.cell? ⟨q1, 0, none⟩ = some (.int .i64 x.mac) ∧ W1.cell? ⟨q1, 1, none⟩ = some (.int .i64 x.port) ∧ W1.cell? ⟨q1, 2, none⟩ = some (.int .i64 x.seen) ∧ W1.cell? ⟨q1, 3, none⟩ = some (.bool x.st) := ⟨Zc.out.c (i := 0) rfl, Zc.out.c (i := 1) rfl, Zc.out.c (i := 2) rfl, Zc.out.c (i := 3) rfl⟩
    go_wp2_with fail
    obtain ⟨V, hV⟩ : ∃ V, V = W1.alloc (eObj x.mac x.port x.seen x.st) := ⟨_, rfl⟩
    have bV : Below W1.heap.size W1 V := by rw [hV]; exact (Below.refl _ _).alloc (Nat.le_refl _) _
    have OV := Lib.hid (show OwnE V W1.heap.size (.slice (some ⟨W1.heap.size, 0, none⟩) 1 1) [x] by rw [hV]; exact own_litE W1 #[.int .i64 x.mac, .int .i64 x.port, .int .i64 x.seen, .bool x.st] [x] W1.heap.size 1 (Nat.le_refl _) rfl rfl (by simp))
    have RV := Lib.hid (R1.out.below bV)
    have YV := Yc.out.below bV
    have ZV := Zc.out.below bV
    have XV := Lib.hid (Xc.out.below bV)
    have BV := Lib.hid (bt B1.out bV)
    have hWV := Lib.hid (Nat.le_trans hW1.out bV.size)
    have hgS := Lib.hid (hS2.out W1 hW1.out)
    rw [← hV]
    clear hV z0 z1 z2 z3 bV
    obtain ⟨y0, y1, y2⟩ := Bx.four' YV
    have z0 := ZV.c (i := 0) rfl
    have hyV := YV.lt
    have hzV := ZV.lt
    generalize W1.heap.size = g at *
    refine wp_region_free (by kernel_rfl) (fun ix => match ix with | 0 => 35 | 1 => 36 | 2 => 37 | 3 => 38 | 4 => 39 | 5 => 40 | 6 => 41 | 8 => 5 | _ => 0) 0 7 (fun ix => ix == 8) (fun _ => .bool true) (by decide) (by decide) rfl rfl (by kernel_rfl) (by kernel_rfl) (by kernel_rfl) (fun W' => Below V.heap.size V W') (fun W' W'' => Below W'.heap.size W' W'') (fun W' h => h) (fun W' W'' h h' => bt h h') (fun W' W'' h h' => bt h h')
      (spR8 (fun b => S b ∨ b = q2) (tbv (.slice A n c) s ag) (.slice A6 l1.length c6) q1 g x.mac s ag (x :: l1) (bs.set (bucketI x.mac bs.length).toNat (x :: l1))) spR8_mono (fun i v W' W'' _ h _ hb => spR8_mono i v W' W'' h hb) ?_
    refine ⟨?_, ?_, ?_, ?_, ?_, ?_, ?_, ?_, ?_, trivial⟩
    · as_aux_lemma =>
        intro a9 W2 K hR hm hdep hk hK hall
        replace hK : ∀ v w', spR8 (fun b => S b ∨ b = q2) (tbv (.slice A n c) s ag) (.slice A6 l1.length c6) q1 g x.mac s ag (x :: l1) (bs.set (bucketI x.mac bs.length).toNat (x :: l1)) 0 v w' → Below W2.heap.size W2 w' → K (a9.put (some 35) v) w' := hK
        have hb := hR rfl
        have d2 : a9.tmps.getD 2 undef = .pointer (some ⟨w.heap.size, 0, none⟩) := hk 2 (by kernel_rfl)
        have t0 := (hb.cell (p := ⟨w.heap.size, 0, none⟩) hyV).trans y0
        have t1 := (hb.cell (p := ⟨w.heap.size, 1, none⟩) hyV).trans y1
        have t2 := (hb.cell (p := ⟨w.heap.size, 2, none⟩) hyV).trans y2
        clear hdep hk hm hR hall
        go_simp
        exact hK _ _ rfl (Below.refl _ _)
    · as_aux_lemma =>
        intro a9 W2 K hR hm hdep hk hK hall
        replace hK : ∀ v w', spR8 (fun b => S b ∨ b = q2) (tbv (.slice A n c) s ag) (.slice A6 l1.length c6) q1 g x.mac s ag (x :: l1) (bs.set (bucketI x.mac bs.length).toNat (x :: l1)) 1 v w' → Below W2.heap.size W2 w' → K (a9.put (some 36) v) w' := hK
        have hb := hR rfl
        have d3 : a9.tmps.getD 3 undef = .pointer (some ⟨q1, 0, none⟩) := hk 3 (by kernel_rfl)
        clear hdep hk hm hR hall
        go_simp
        exact hK _ _ rfl (Below.refl _ _)
    · as_aux_lemma =>
        intro a9 W2 K hR hm hdep hk hK hall
        replace hK : ∀ v w', spR8 (fun b => S b ∨ b = q2) (tbv (.slice A n c) s ag) (.slice A6 l1.length c6) q1 g x.mac s ag (x :: l1) (bs.set (bucketI x.mac bs.length).toNat (x :: l1)) 2 v w' → Below W2.heap.size W2 w' → K (a9.put (some 37) v) w' := hK
        have hb := hR rfl
        have d36 : a9.tmps.getD 36 undef = .pointer (some ⟨q1, 0, none⟩) := ((hdep ⟨1, .data⟩ (by simp) rfl (by decide)).2 rfl).2 rfl
        have t0 := (hb.cell (p := ⟨q1, 0, none⟩) hzV).trans z0
        clear hdep hk hm hR hall
        go_simp
        exact hK _ _ rfl (Below.refl _ _)
    · as_aux_lemma =>
        intro a9 W2 K hR hm hdep hk hK hall
        replace hK : ∀ v w', spR8 (fun b => S b ∨ b = q2) (tbv (.slice A n c) s ag) (.slice A6 l1.length c6) q1 g x.mac s ag (x :: l1) (bs.set (bucketI x.mac bs.length).toNat (x :: l1)) 3 v w' → Below W2.heap.size W2 w' → K (a9.put (some 38) v) w' := hK
        have hb := hR rfl
        have d8 : a9.tmps.getD 8 undef = .slice (some ⟨g, 0, none⟩) 1 1 := hk 8 (by kernel_rfl)
        clear hdep hk hm hR hall
        go_simp
        exact hK _ _ rfl (Below.refl _ _)
    · as_aux_lemma =>
        intro a9 W2 K hR hm hdep hk hK hall
        replace hK : ∀ v w', spR8 (fun b => S b ∨ b = q2) (tbv (.slice A n c) s ag) (.slice A6 l1.length c6) q1 g x.mac s ag (x :: l1) (bs.set (bucketI x.mac bs.length).toNat (x :: l1)) 4 v w' → Below W2.heap.size W2 w' → K (a9.put (some 39) v) w' := hK
        have hb := hR rfl
        have d6 : a9.tmps.getD 6 undef = .slice A6 l1.length c6 := hk 6 (by kernel_rfl)
        clear hdep hk hm hR hall
        go_simp
        exact hK _ _ rfl (Below.refl _ _)
    · as_aux_lemma =>
        intro a9 W2 K hR hm hdep hk hK hall
        replace hK : ∀ v w', spR8 (fun b => S b ∨ b = q2) (tbv (.slice A n c) s ag) (.slice A6 l1.length c6) q1 g x.mac s ag (x :: l1) (bs.set (bucketI x.mac bs.length).toNat (x :: l1)) 5 v w' → Below W2.heap.size W2 w' → K (a9.put (some 40) v) w' := hK
        have hb := hR rfl
        have d38 : a9.tmps.getD 38 undef = .slice (some ⟨g, 0, none⟩) 1 1 := ((hdep ⟨3, .data⟩ (by simp) rfl (by decide)).2 rfl).2 rfl
        have d39 : a9.tmps.getD 39 undef = .slice A6 l1.length c6 := ((hdep ⟨4, .data⟩ (by simp) rfl (by decide)).2 rfl).2 rfl
        have hO := Lib.hid (OV.out.below hb)
        have hRo := Lib.hid (RV.out.below hb)
        clear hdep hk hm hR hall
        refine wp_app_lit (.tmp 38) (.tmp 39) rfl d38 d39 hO.out hRo.out hlx.out ?_
        intro v' W' hown hbel
        obtain ⟨A9, c9, hv9⟩ := OwnE.form' hown
        subst hv9
        have hrs : RowS (fun b => S b ∨ b = q2) W' A9 _ c9 _ := ⟨own_rowE hown, fun _ b o e hs => by
          subst e
          have h1 := (hown.lt b rfl).1
          have h2 := hgS.out b hs
          omega⟩
        exact hK _ _ ⟨A9, _, c9, rfl, hrs⟩ hbel
    · as_aux_lemma =>
        intro a9 W2 K hR hm hdep hk hK hall
        replace hK : ∀ v w', spR8 (fun b => S b ∨ b = q2) (tbv (.slice A n c) s ag) (.slice A6 l1.length c6) q1 g x.mac s ag (x :: l1) (bs.set (bucketI x.mac bs.length).toNat (x :: l1)) 6 v w' → Below W2.heap.size W2 w' → K (a9.put (some 41) v) w' := hK
        have hb := hR rfl
        have d35 : a9.tmps.getD 35 undef = tbv (.slice A n c) s ag := ((hdep ⟨0, .data⟩ (by simp) rfl (by decide)).2 rfl).2 rfl
        have d37 : a9.tmps.getD 37 undef = .int .i64 x.mac := ((hdep ⟨2, .data⟩ (by simp) rfl (by decide)).2 rfl).2 rfl
        obtain ⟨A8, n8, c8, d40, r1⟩ : IsRowS (fun b => S b ∨ b = q2) (x :: l1) (a9.tmps.getD 40 undef) W2 := ((hdep ⟨5, .data⟩ (by simp) rfl (by decide)).2 rfl).2 rfl
        have hcall := Lib.hid (hwi.out W2 (bt BV.out hb) (Nat.le_trans hWV.out hb.size) A8 n8 c8 _ r1)
        clear hdep hk hm hR hall
        have q35 : a9.tmps[35]?.getD undef = tbv (.slice A n c) s ag := by simpa [Array.getD_eq_getD_getElem?] using d35
        clear d35
        have q40 : a9.tmps[40]?.getD undef = .slice A8 n8 c8 := by simpa [Array.getD_eq_getD_getElem?] using d40
        clear d40
        go_simp
        refine hcall.out.mono ?_
        rintro e w9 ⟨A7, n7, c7, rfl, r3, r4⟩
        exact hK _ _ ⟨A7, n7, c7, rfl, r3⟩ r4
    · intro a9 W2 K hR hm hdep hk hK hall
      replace hK : ∀ w', (∀ a', Ended _ _ _ _ a9 a' → _) → K a9 w' := hK
      obtain ⟨hsp, hn, hdf⟩ := hall rfl
      obtain ⟨A8, n8, c8, h41, r1⟩ : IsTabO (fun b => S b ∨ b = q2) s ag (bs.set (bucketI x.mac bs.length).toNat (x :: l1)) (a9.tmps.getD 41 undef) W2 := hsp 6 (by decide) rfl
      have hb := hR rfl
      have XW := XV.out.below hb
      obtain ⟨w2, hw2⟩ : ∃ w2, w2 = (((W2.setCell ⟨q2, 0, none⟩ (.slice A8 n8 c8)).setCell ⟨q2, 1, none⟩ (.int .i64 s)).setCell ⟨q2, 2, none⟩ (.int .i64 ag)) := ⟨_, rfl⟩
      have hKK := Lib.hid (hK w2)
      obtain ⟨x0, x1, x2⟩ := Bx.four' XW
      have f0 := XW.f 0
      have f1 := XW.f 1
      have f2 := XW.f 2
      have hxl := XW.lt
      have hB2 := Lib.hid (show Below w.heap.size w w2 by rw [hw2]; exact below3 (bt BV.out hb) hq3 _ _ _)
      have hT2 := Lib.hid (show TabO S w2 A8 n8 c8 (bs.set (bucketI x.mac bs.length).toNat (x :: l1)) by rw [hw2]; exact (r1.keep (OffS.three (S := fun b => S b ∨ b = q2) (Or.inr rfl) W2 _ _ _)).weak (fun b hb => Or.inl hb))
      have hX2 := Lib.hid (show Bx w2 q2 TT #[.slice A8 n8 c8, .int .i64 s, .int .i64 ag] by rw [hw2]; exact XW.three)
      have hP4 : a9.tmps.getD 4 undef = .pointer (some ⟨q2, 0, none⟩) := hk 4 (by kernel_rfl)
      clear hK hsp hR hall r1 hm hdep
      replace hn := Lib.hid hn
      have q4' : a9.tmps[4]?.getD undef = .pointer (some ⟨q2, 0, none⟩) := by simpa [Array.getD_eq_getD_getElem?] using hP4
      have q41 : a9.tmps[41]?.getD undef = tbv (.slice A8 n8 c8) s ag := by simpa [Array.getD_eq_getD_getElem?] using h41
      clear h41 hP4
      go_simp
      rw [← hw2]
      refine hKK.out ?_
      rintro am ⟨h1', h2', h3, h4⟩
      have hn2 := h1'.trans hn.out
      have hdf2 := h2'.trans hdf
      clear hw2 x0 x1 x2 f0 f1 f2 q4' q41 hn hdf h1' h2' XW hxl
      have s0 : am.tmps.getD 0 undef = tbv (.slice A n c) s ag := (h3 0 (by decide +revert)).trans (hk 0 (by kernel_rfl))
      have s1 : am.tmps.getD 1 undef = x.val := (h3 1 (by decide +revert)).trans (hk 1 (by kernel_rfl))
      have s2 : am.tmps.getD 2 undef = .pointer (some ⟨w.heap.size, 0, none⟩) := (h3 2 (by decide +revert)).trans (hk 2 (by kernel_rfl))
      have s3 : am.tmps.getD 3 undef = .pointer (some ⟨q1, 0, none⟩) := (h3 3 (by decide +revert)).trans (hk 3 (by kernel_rfl))
      have s4 : am.tmps.getD 4 undef = .pointer (some ⟨q2, 0, none⟩) := (h3 4 (by decide +revert)).trans (hk 4 (by kernel_rfl))
      have s5 : am.tmps.getD 5 undef = .bool true := h4 8 (by decide +revert) rfl
      clear hk hKK h3 h4
      obtain ⟨tm, df⟩ := am
      have e := arr_out tm 42 hn2
      replace e : tm = #[tm.getD 0 undef, tm.getD 1 undef, tm.getD 2 undef, tm.getD 3 undef, tm.getD 4 undef, tm.getD 5 undef, tm.getD 6 undef, tm.getD 7 undef, tm.getD 8 undef, tm.getD 9 undef, tm.getD 10 undef, tm.getD 11 undef, tm.getD 12 undef, tm.getD 13 undef, tm.getD 14 undef, tm.getD 15 undef, tm.getD 16 undef, tm.getD 17 undef, tm.getD 18 undef, tm.getD 19 undef, tm.getD 20 undef, tm.getD 21 undef, tm.getD 22 undef, tm.getD 23 undef, tm.getD 24 undef, tm.getD 25 undef, tm.getD 26 undef, tm.getD 27 undef, tm.getD 28 undef, tm.getD 29 undef, tm.getD 30 undef, tm.getD 31 undef, tm.getD 32 undef, tm.getD 33 undef, tm.getD 34 undef, tm.getD 35 undef, tm.getD 36 undef, tm.getD 37 undef, tm.getD 38 undef, tm.getD 39 undef, tm.getD 40 undef, tm.getD 41 undef] := e
      simp only at s0 s1 s2 s3 s4 s5 hdf2
      rw [s0, s1, s2, s3, s4, s5] at e
      subst hdf2
      clear s0 s1 s2 s3 s4 s5 hn2
      generalize tm.getD 6 undef = u6 at e
      generalize tm.getD 7 undef = u7 at e
      generalize tm.getD 8 undef = u8 at e
      generalize tm.getD 9 undef = u9 at e
      generalize tm.getD 10 undef = u10 at e
      generalize tm.getD 11 undef = u11 at e
      generalize tm.getD 12 undef = u12 at e
      generalize tm.getD 13 undef = u13 at e
      generalize tm.getD 14 undef = u14 at e
      generalize tm.getD 15 undef = u15 at e
      generalize tm.getD 16 undef = u16 at e
      generalize tm.getD 17 undef = u17 at e
      generalize tm.getD 18 undef = u18 at e
      generalize tm.getD 19 undef = u19 at e
      generalize tm.getD 20 undef = u20 at e
      generalize tm.getD 21 undef = u21 at e
      generalize tm.getD 22 undef = u22 at e
      generalize tm.getD 23 undef = u23 at e
      generalize tm.getD 24 undef = u24 at e
      generalize tm.getD 25 undef = u25 at e
      generalize tm.getD 26 undef = u26 at e
      generalize tm.getD 27 undef = u27 at e
      generalize tm.getD 28 undef = u28 at e
      generalize tm.getD 29 undef = u29 at e
      generalize tm.getD 30 undef = u30 at e
      generalize tm.getD 31 undef = u31 at e
      generalize tm.getD 32 undef = u32 at e
      generalize tm.getD 33 undef = u33 at e
      generalize tm.getD 34 undef = u34 at e
      generalize tm.getD 35 undef = u35 at e
      generalize tm.getD 36 undef = u36 at e
      generalize tm.getD 37 undef = u37 at e
      generalize tm.getD 38 undef = u38 at e
      generalize tm.getD 39 undef = u39 at e
      generalize tm.getD 40 undef = u40 at e
      generalize tm.getD 41 undef = u41 at e
      subst e
      simp only [Exit.then]
      obtain ⟨x0, x1, x2⟩ := Bx.four' hX2.out
      go_wp2_with fail
      refine bodyPost_ret (v := .tuple #[tbv (.slice A8 n8 c8) s ag, .bool true]) (by simp [results, Try.results49, go_sem, x0, x1, x2]) rfl ⟨A8, n8, c8, by rw [hres.out]; rfl, by rw [hres.out]; exact hT2.out, hB2.out⟩
    · intro a9 W2 K hR hm hdep hk hK hall
      replace hK : K (a9.put (some 5) (.bool true)) W2 := hK
      clear hdep hk hm hR hall
      go_simp
      exact hK
  | true =>
    have hcl := Lib.hid (r_last R1.out (by have := hll1.out; omega))
    go_wp2_with fail
    go_at_call 68
    (with_reducible refine hcl.out.mono ?_)
    rintro e w3 ⟨rfl, hb3⟩
    have Yc := Lib.hid (Y1.out.below hb3)
    have Zc := Lib.hid (Z1.out.below hb3)
    have Xc := Lib.hid (X1.out.below hb3)
    have R3 := Lib.hid (R1.out.below hb3)
    have B3 := Lib.hid (bt B1.out hb3)
    have hW3 := Lib.hid (Nat.le_trans hW1.out hb3.size)
    clear hb3 hcl Y1 Z1 X1 R1 B1 hW1 y0 y1 y2 hy1 hz9 hx9
    obtain ⟨y0, y1, y2⟩ := Bx.four' Yc.out
    have hy1 := Yc.out.lt
    have hz9 := Zc.out.lt
    have hx9 := Xc.out.lt
    rcases lastK_spec l1 l1.length (Nat.le_refl _) with ⟨hli, _⟩ | ⟨k, y, hli, hkl, hky, _, _⟩
    · have hres : Hid (rPutL l1 s x = none) := Lib.hid (by unfold rPutL; rw [hfull, hli]; rfl)
      rw [hli]
      obtain ⟨x0, x1, x2⟩ := Bx.four' Xc.out
      have f0 := Xc.out.f 0
      have f1 := Xc.out.f 1
      have f2 := Xc.out.f 2
      have hB9 := Lib.hid fun v0 v1 v2 => below3 B3.out hq3 v0 v1 v2
      have hT9 := Lib.hid fun v0 v1 v2 => ((hTW.out w3 B3.out).keep (OffS.three (S := fun b => S b ∨ b = q2) (Or.inr rfl) w3 v0 v1 v2)).weak (fun b hb => Or.inl hb)
      replace hli := Lib.hid hli
      clear Yc Zc Xc R3 B3
      go_wp2_with fail
      refine bodyPost_ret (v := .tuple #[tbv (.slice A n c) s ag, .bool false]) (by simp [results, Try.results49, go_sem, x0, x1, x2]) rfl ⟨A, n, c, by rw [hres.out]; rfl, by rw [hres.out]; exact hT9.out _ _ _, hB9.out _ _ _⟩
    · obtain ⟨b9, o9, rfl, hbw9, u0, u1, u2, u3⟩ := RowE.at_ R3.out hky
      have hkn : (k : Int) < (l1.length : Int) := by omega
      have hk0 : (0 : Int) ≤ (k : Int) := by omega
      have hkd : decide ((k : Int) < 0) = false := by rw [decide_eq_false_iff_not]; omega
      have hkey : rKey l1 = y.mac := by
        unfold rKey
        rw [hli, Int.toNat_natCast, List.getD_eq_getElem?_getD, hky]; rfl
      obtain ⟨l2, hl2⟩ : ∃ l2, keepL (isM y.mac) l1 = l2 := ⟨_, rfl⟩
      have hres : Hid (rPutL l1 s x = some (x :: l2)) := Lib.hid (by unfold rPutL; rw [hfull, hli, hkey, hl2]; simp)
      have hcw := r_without R3.out hll1.out y.mac
      have hl2l : l2.length ≤ 100000 := by rw [← hl2]; have := keepL_le (isM y.mac) l1; have := hll1.out; omega
      rw [hl2] at hcw
      replace hcw := Lib.hid hcw
      replace hl2l := Lib.hid hl2l
      rw [hli]
      clear hkey hl2 hky
      replace hli := Lib.hid hli
      go_wp2_with fail
      go_at_call 56
      (with_reducible refine hcw.out.mono ?_)
      rintro e w4 ⟨A7, n7, c7, rfl, R7, hb4⟩
      have hl7 := R7.len
      have hcap7 := R7.cap
      obtain rfl := hl7
      replace R7 := Lib.hid R7
      have B4 := Lib.hid (bt B3.out hb4)
      have hW4 := Lib.hid (Nat.le_trans hW3.out hb4.size)
      replace Yc := Lib.hid (Yc.out.below hb4)
      replace Zc := Lib.hid (Zc.out.below hb4)
      replace Xc := Lib.hid (Xc.out.below hb4)
      clear hb4 hcw y0 y1 y2 u0 u1 u2 u3 hbw9 R3 B3 hW3 hy1 hz9 hx9
      obtain ⟨y0, y1, y2⟩ := Bx.four' Yc.out
      have hy1 := Yc.out.lt
      have hz9 := Zc.out.lt
      have hx9 := Xc.out.lt
      have hlx : Hid ((l2).length ≤ 100000) := hl2l
      obtain ⟨z0, z1, z2, z3⟩ : w4.cell? ⟨q1, 0, none⟩ = some (.int .i64 x.mac) ∧ w4.cell? ⟨q1, 1, none⟩ = some (.int .i64 x.port) ∧ w4.cell? ⟨q1, 2, none⟩ = some (.int .i64 x.seen) ∧ w4.cell? ⟨q1, 3, none⟩ = some (.bool x.st) := ⟨Zc.out.c (i := 0) rfl, Zc.out.c (i := 1) rfl, Zc.out.c (i := 2) rfl, Zc.out.c (i := 3) rfl⟩
      go_wp2_with fail
      obtain ⟨V, hV⟩ : ∃ V, V = w4.alloc (eObj x.mac x.port x.seen x.st) := ⟨_, rfl⟩
      have bV : Below w4.heap.size w4 V := by rw [hV]; exact (Below.refl _ _).alloc (Nat.le_refl _) _
      have OV := Lib.hid (show OwnE V w4.heap.size (.slice (some ⟨w4.heap.size, 0, none⟩) 1 1) [x] by rw [hV]; exact own_litE w4 #[.int .i64 x.mac, .int .i64 x.port, .int .i64 x.seen, .bool x.st] [x] w4.heap.size 1 (Nat.le_refl _) rfl rfl (by simp))
      have RV := Lib.hid (R7.out.below bV)
      have YV := Yc.out.below bV
      have ZV := Zc.out.below bV
      have XV := Lib.hid (Xc.out.below bV)
      have BV := Lib.hid (bt B4.out bV)
      have hWV := Lib.hid (Nat.le_trans hW4.out bV.size)
      have hgS := Lib.hid (hS2.out w4 hW4.out)
      rw [← hV]
      clear hV z0 z1 z2 z3 bV
      obtain ⟨y0, y1, y2⟩ := Bx.four' YV
      have z0 := ZV.c (i := 0) rfl
      have hyV := YV.lt
      have hzV := ZV.lt
      generalize w4.heap.size = g at *
      refine wp_region_free (by kernel_rfl) (fun ix => match ix with | 0 => 35 | 1 => 36 | 2 => 37 | 3 => 38 | 4 => 39 | 5 => 40 | 6 => 41 | 8 => 5 | _ => 0) 0 7 (fun ix => ix == 8) (fun _ => .bool true) (by decide) (by decide) rfl rfl (by kernel_rfl) (by kernel_rfl) (by kernel_rfl) (fun W' => Below V.heap.size V W') (fun W' W'' => Below W'.heap.size W' W'') (fun W' h => h) (fun W' W'' h h' => bt h h') (fun W' W'' h h' => bt h h')
        (spR8 (fun b => S b ∨ b = q2) (tbv (.slice A n c) s ag) (.slice A7 l2.length c7) q1 g x.mac s ag (x :: l2) (bs.set (bucketI x.mac bs.length).toNat (x :: l2))) spR8_mono (fun i v W' W'' _ h _ hb => spR8_mono i v W' W'' h hb) ?_
      refine ⟨?_, ?_, ?_, ?_, ?_, ?_, ?_, ?_, ?_, trivial⟩
      · as_aux_lemma =>
          intro a9 W2 K hR hm hdep hk hK hall
          replace hK : ∀ v w', spR8 (fun b => S b ∨ b = q2) (tbv (.slice A n c) s ag) (.slice A7 l2.length c7) q1 g x.mac s ag (x :: l2) (bs.set (bucketI x.mac bs.length).toNat (x :: l2)) 0 v w' → Below W2.heap.size W2 w' → K (a9.put (some 35) v) w' := hK
          have hb := hR rfl
          have d2 : a9.tmps.getD 2 undef = .pointer (some ⟨w.heap.size, 0, none⟩) := hk 2 (by kernel_rfl)
          have t0 := (hb.cell (p := ⟨w.heap.size, 0, none⟩) hyV).trans y0
          have t1 := (hb.cell (p := ⟨w.heap.size, 1, none⟩) hyV).trans y1
          have t2 := (hb.cell (p := ⟨w.heap.size, 2, none⟩) hyV).trans y2
          clear hdep hk hm hR hall
          go_simp
          exact hK _ _ rfl (Below.refl _ _)
      · as_aux_lemma =>
          intro a9 W2 K hR hm hdep hk hK hall
          replace hK : ∀ v w', spR8 (fun b => S b ∨ b = q2) (tbv (.slice A n c) s ag) (.slice A7 l2.length c7) q1 g x.mac s ag (x :: l2) (bs.set (bucketI x.mac bs.length).toNat (x :: l2)) 1 v w' → Below W2.heap.size W2 w' → K (a9.put (some 36) v) w' := hK
          have hb := hR rfl
          have d3 : a9.tmps.getD 3 undef = .pointer (some ⟨q1, 0, none⟩) := hk 3 (by kernel_rfl)
          clear hdep hk hm hR hall
          go_simp
          exact hK _ _ rfl (Below.refl _ _)
      · as_aux_lemma =>
          intro a9 W2 K hR hm hdep hk hK hall
          replace hK : ∀ v w', spR8 (fun b => S b ∨ b = q2) (tbv (.slice A n c) s ag) (.slice A7 l2.length c7) q1 g x.mac s ag (x :: l2) (bs.set (bucketI x.mac bs.length).toNat (x :: l2)) 2 v w' → Below W2.heap.size W2 w' → K (a9.put (some 37) v) w' := hK
          have hb := hR rfl
          have d36 : a9.tmps.getD 36 undef = .pointer (some ⟨q1, 0, none⟩) := ((hdep ⟨1, .data⟩ (by simp) rfl (by decide)).2 rfl).2 rfl
          have t0 := (hb.cell (p := ⟨q1, 0, none⟩) hzV).trans z0
          clear hdep hk hm hR hall
          go_simp
          exact hK _ _ rfl (Below.refl _ _)
      · as_aux_lemma =>
          intro a9 W2 K hR hm hdep hk hK hall
          replace hK : ∀ v w', spR8 (fun b => S b ∨ b = q2) (tbv (.slice A n c) s ag) (.slice A7 l2.length c7) q1 g x.mac s ag (x :: l2) (bs.set (bucketI x.mac bs.length).toNat (x :: l2)) 3 v w' → Below W2.heap.size W2 w' → K (a9.put (some 38) v) w' := hK
          have hb := hR rfl
          have d8 : a9.tmps.getD 8 undef = .slice (some ⟨g, 0, none⟩) 1 1 := hk 8 (by kernel_rfl)
          clear hdep hk hm hR hall
          go_simp
          exact hK _ _ rfl (Below.refl _ _)
      · as_aux_lemma =>
          intro a9 W2 K hR hm hdep hk hK hall
          replace hK : ∀ v w', spR8 (fun b => S b ∨ b = q2) (tbv (.slice A n c) s ag) (.slice A7 l2.length c7) q1 g x.mac s ag (x :: l2) (bs.set (bucketI x.mac bs.length).toNat (x :: l2)) 4 v w' → Below W2.heap.size W2 w' → K (a9.put (some 39) v) w' := hK
          have hb := hR rfl
          have d6 : a9.tmps.getD 6 undef = .slice A7 l2.length c7 := hk 6 (by kernel_rfl)
          clear hdep hk hm hR hall
          go_simp
          exact hK _ _ rfl (Below.refl _ _)
      · as_aux_lemma =>
          intro a9 W2 K hR hm hdep hk hK hall
          replace hK : ∀ v w', spR8 (fun b => S b ∨ b = q2) (tbv (.slice A n c) s ag) (.slice A7 l2.length c7) q1 g x.mac s ag (x :: l2) (bs.set (bucketI x.mac bs.length).toNat (x :: l2)) 5 v w' → Below W2.heap.size W2 w' → K (a9.put (some 40) v) w' := hK
          have hb := hR rfl
          have d38 : a9.tmps.getD 38 undef = .slice (some ⟨g, 0, none⟩) 1 1 := ((hdep ⟨3, .data⟩ (by simp) rfl (by decide)).2 rfl).2 rfl
          have d39 : a9.tmps.getD 39 undef = .slice A7 l2.length c7 := ((hdep ⟨4, .data⟩ (by simp) rfl (by decide)).2 rfl).2 rfl
          have hO := Lib.hid (OV.out.below hb)
          have hRo := Lib.hid (RV.out.below hb)
          clear hdep hk hm hR hall
          refine wp_app_lit (.tmp 38) (.tmp 39) rfl d38 d39 hO.out hRo.out hlx.out ?_
          intro v' W' hown hbel
          obtain ⟨A9, c9, hv9⟩ := OwnE.form' hown
          subst hv9
          have hrs : RowS (fun b => S b ∨ b = q2) W' A9 _ c9 _ := ⟨own_rowE hown, fun _ b o e hs => by
            subst e
            have h1 := (hown.lt b rfl).1
            have h2 := hgS.out b hs
            omega⟩
          exact hK _ _ ⟨A9, _, c9, rfl, hrs⟩ hbel
      · as_aux_lemma =>
          intro a9 W2 K hR hm hdep hk hK hall
          replace hK : ∀ v w', spR8 (fun b => S b ∨ b = q2) (tbv (.slice A n c) s ag) (.slice A7 l2.length c7) q1 g x.mac s ag (x :: l2) (bs.set (bucketI x.mac bs.length).toNat (x :: l2)) 6 v w' → Below W2.heap.size W2 w' → K (a9.put (some 41) v) w' := hK
          have hb := hR rfl
          have d35 : a9.tmps.getD 35 undef = tbv (.slice A n c) s ag := ((hdep ⟨0, .data⟩ (by simp) rfl (by decide)).2 rfl).2 rfl
          have d37 : a9.tmps.getD 37 undef = .int .i64 x.mac := ((hdep ⟨2, .data⟩ (by simp) rfl (by decide)).2 rfl).2 rfl
          obtain ⟨A8, n8, c8, d40, r1⟩ : IsRowS (fun b => S b ∨ b = q2) (x :: l2) (a9.tmps.getD 40 undef) W2 := ((hdep ⟨5, .data⟩ (by simp) rfl (by decide)).2 rfl).2 rfl
          have hcall := Lib.hid (hwi.out W2 (bt BV.out hb) (Nat.le_trans hWV.out hb.size) A8 n8 c8 _ r1)
          clear hdep hk hm hR hall
          have q35 : a9.tmps[35]?.getD undef = tbv (.slice A n c) s ag := by simpa [Array.getD_eq_getD_getElem?] using d35
          clear d35
          have q40 : a9.tmps[40]?.getD undef = .slice A8 n8 c8 := by simpa [Array.getD_eq_getD_getElem?] using d40
          clear d40
          go_simp
          refine hcall.out.mono ?_
          rintro e w9 ⟨A7, n7, c7, rfl, r3, r4⟩
          exact hK _ _ ⟨A7, n7, c7, rfl, r3⟩ r4
      · intro a9 W2 K hR hm hdep hk hK hall
        replace hK : ∀ w', (∀ a', Ended _ _ _ _ a9 a' → _) → K a9 w' := hK
        obtain ⟨hsp, hn, hdf⟩ := hall rfl
        obtain ⟨A8, n8, c8, h41, r1⟩ : IsTabO (fun b => S b ∨ b = q2) s ag (bs.set (bucketI x.mac bs.length).toNat (x :: l2)) (a9.tmps.getD 41 undef) W2 := hsp 6 (by decide) rfl
        have hb := hR rfl
        have XW := XV.out.below hb
        obtain ⟨w2, hw2⟩ : ∃ w2, w2 = (((W2.setCell ⟨q2, 0, none⟩ (.slice A8 n8 c8)).setCell ⟨q2, 1, none⟩ (.int .i64 s)).setCell ⟨q2, 2, none⟩ (.int .i64 ag)) := ⟨_, rfl⟩
        have hKK := Lib.hid (hK w2)
        obtain ⟨x0, x1, x2⟩ := Bx.four' XW
        have f0 := XW.f 0
        have f1 := XW.f 1
        have f2 := XW.f 2
        have hxl := XW.lt
        have hB2 := Lib.hid (show Below w.heap.size w w2 by rw [hw2]; exact below3 (bt BV.out hb) hq3 _ _ _)
        have hT2 := Lib.hid (show TabO S w2 A8 n8 c8 (bs.set (bucketI x.mac bs.length).toNat (x :: l2)) by rw [hw2]; exact (r1.keep (OffS.three (S := fun b => S b ∨ b = q2) (Or.inr rfl) W2 _ _ _)).weak (fun b hb => Or.inl hb))
        have hX2 := Lib.hid (show Bx w2 q2 TT #[.slice A8 n8 c8, .int .i64 s, .int .i64 ag] by rw [hw2]; exact XW.three)
        have hP4 : a9.tmps.getD 4 undef = .pointer (some ⟨q2, 0, none⟩) := hk 4 (by kernel_rfl)
        clear hK hsp hR hall r1 hm hdep
        replace hn := Lib.hid hn
        have q4' : a9.tmps[4]?.getD undef = .pointer (some ⟨q2, 0, none⟩) := by simpa [Array.getD_eq_getD_getElem?] using hP4
        have q41 : a9.tmps[41]?.getD undef = tbv (.slice A8 n8 c8) s ag := by simpa [Array.getD_eq_getD_getElem?] using h41
        clear h41 hP4
        go_simp
        rw [← hw2]
        refine hKK.out ?_
        rintro am ⟨h1', h2', h3, h4⟩
        have hn2 := h1'.trans hn.out
        have hdf2 := h2'.trans hdf
        clear hw2 x0 x1 x2 f0 f1 f2 q4' q41 hn hdf h1' h2' XW hxl
        have s0 : am.tmps.getD 0 undef = tbv (.slice A n c) s ag := (h3 0 (by decide +revert)).trans (hk 0 (by kernel_rfl))
        have s1 : am.tmps.getD 1 undef = x.val := (h3 1 (by decide +revert)).trans (hk 1 (by kernel_rfl))
        have s2 : am.tmps.getD 2 undef = .pointer (some ⟨w.heap.size, 0, none⟩) := (h3 2 (by decide +revert)).trans (hk 2 (by kernel_rfl))
        have s3 : am.tmps.getD 3 undef = .pointer (some ⟨q1, 0, none⟩) := (h3 3 (by decide +revert)).trans (hk 3 (by kernel_rfl))
        have s4 : am.tmps.getD 4 undef = .pointer (some ⟨q2, 0, none⟩) := (h3 4 (by decide +revert)).trans (hk 4 (by kernel_rfl))
        have s5 : am.tmps.getD 5 undef = .bool true := h4 8 (by decide +revert) rfl
        clear hk hKK h3 h4
        obtain ⟨tm, df⟩ := am
        have e := arr_out tm 42 hn2
        replace e : tm = #[tm.getD 0 undef, tm.getD 1 undef, tm.getD 2 undef, tm.getD 3 undef, tm.getD 4 undef, tm.getD 5 undef, tm.getD 6 undef, tm.getD 7 undef, tm.getD 8 undef, tm.getD 9 undef, tm.getD 10 undef, tm.getD 11 undef, tm.getD 12 undef, tm.getD 13 undef, tm.getD 14 undef, tm.getD 15 undef, tm.getD 16 undef, tm.getD 17 undef, tm.getD 18 undef, tm.getD 19 undef, tm.getD 20 undef, tm.getD 21 undef, tm.getD 22 undef, tm.getD 23 undef, tm.getD 24 undef, tm.getD 25 undef, tm.getD 26 undef, tm.getD 27 undef, tm.getD 28 undef, tm.getD 29 undef, tm.getD 30 undef, tm.getD 31 undef, tm.getD 32 undef, tm.getD 33 undef, tm.getD 34 undef, tm.getD 35 undef, tm.getD 36 undef, tm.getD 37 undef, tm.getD 38 undef, tm.getD 39 undef, tm.getD 40 undef, tm.getD 41 undef] := e
        simp only at s0 s1 s2 s3 s4 s5 hdf2
        rw [s0, s1, s2, s3, s4, s5] at e
        subst hdf2
        clear s0 s1 s2 s3 s4 s5 hn2
        generalize tm.getD 6 undef = u6 at e
        generalize tm.getD 7 undef = u7 at e
        generalize tm.getD 8 undef = u8 at e
        generalize tm.getD 9 undef = u9 at e
        generalize tm.getD 10 undef = u10 at e
        generalize tm.getD 11 undef = u11 at e
        generalize tm.getD 12 undef = u12 at e
        generalize tm.getD 13 undef = u13 at e
        generalize tm.getD 14 undef = u14 at e
        generalize tm.getD 15 undef = u15 at e
        generalize tm.getD 16 undef = u16 at e
        generalize tm.getD 17 undef = u17 at e
        generalize tm.getD 18 undef = u18 at e
        generalize tm.getD 19 undef = u19 at e
        generalize tm.getD 20 undef = u20 at e
        generalize tm.getD 21 undef = u21 at e
        generalize tm.getD 22 undef = u22 at e
        generalize tm.getD 23 undef = u23 at e
        generalize tm.getD 24 undef = u24 at e
        generalize tm.getD 25 undef = u25 at e
        generalize tm.getD 26 undef = u26 at e
        generalize tm.getD 27 undef = u27 at e
        generalize tm.getD 28 undef = u28 at e
        generalize tm.getD 29 undef = u29 at e
        generalize tm.getD 30 undef = u30 at e
        generalize tm.getD 31 undef = u31 at e
        generalize tm.getD 32 undef = u32 at e
        generalize tm.getD 33 undef = u33 at e
        generalize tm.getD 34 undef = u34 at e
        generalize tm.getD 35 undef = u35 at e
        generalize tm.getD 36 undef = u36 at e
        generalize tm.getD 37 undef = u37 at e
        generalize tm.getD 38 undef = u38 at e
        generalize tm.getD 39 undef = u39 at e
        generalize tm.getD 40 undef = u40 at e
        generalize tm.getD 41 undef = u41 at e
        subst e
        simp only [Exit.then]
        obtain ⟨x0, x1, x2⟩ := Bx.four' hX2.out
        go_wp2_with fail
        refine bodyPost_ret (v := .tuple #[tbv (.slice A8 n8 c8) s ag, .bool true]) (by simp [results, Try.results49, go_sem, x0, x1, x2]) rfl ⟨A8, n8, c8, by rw [hres.out]; rfl, by rw [hres.out]; exact hT2.out, hB2.out⟩
      · intro a9 W2 K hR hm hdep hk hK hall
        replace hK : K (a9.put (some 5) (.bool true)) W2 := hK
        clear hdep hk hm hR hall
        go_simp
        exact hK
end Go.Proofs.Ytnghilcjecjljaa.FdbP

/-
  Contract of footwayref08.Learn.
-/
namespace Go.Proofs.Ytnghilcjecjljaa.FdbP
open Go.RowKit Go.Sort Go.Proofs.Ytnghilcjecjljaa.SliceP Go.Proofs.Ytnghilcjecjljaa.MacP
set_option linter.unusedVariables false
set_option maxRecDepth 100000

def rLearn (bs : List (List E)) (s a port now : Int) : List (List E) := if ((entO bs a).getD zE).st then bs else (rPutO bs s ⟨a, port, now, false⟩).getD bs
set_option maxHeartbeats 16000000 in
theorem r_learn {A : Option Addr} {n c : Nat} {bs : List (List E)} (s ag a port now : Int) {w : World} (ht : TabS w A n c bs) (hs : Small bs) (hbl : ∀ l ∈ bs, l.length ≤ 100000) (hn : numB (bs.length : Int) = true) (hm : macB a = true) :
    Calls Try.prog 22 #[tbv (.slice A n c) s ag, .int .i64 a, .int .i64 port, .int .i64 now] w (RetT w (rLearn bs s a port now) s ag) := by
  obtain ⟨kk, hk1, hk2, hk3⟩ := buck_at (a := a) hn
  have hb0 := hbl _ (List.mem_of_getElem? hk3)
  obtain ⟨w0, hw0⟩ : ∃ w0, w0 = (w.alloc (tObj (.slice A n c) s ag)).alloc (tObj (.slice none 0 0) 0 0) := ⟨_, rfl⟩
  have B0 := Lib.hid (show Below w.heap.size w w0 by rw [hw0]; exact ((Below.refl _ _).alloc (Nat.le_refl _) _).alloc (by simp) _)
  have Y := Lib.hid (show Bx w0 w.heap.size TT #[.slice A n c, .int .i64 s, .int .i64 ag] by rw [hw0]; exact (Bx.new w _ _ rfl).alloc _)
  obtain ⟨q, hq⟩ : ∃ q, q = w.heap.size + 1 := ⟨_, rfl⟩
  have X := Lib.hid (show Bx w0 q TT #[.slice none 0 0, .int .i64 0, .int .i64 0] by rw [hw0, hq]; exact Bx.new _ _ _ (by simp))
  have hqw : w.heap.size ≤ q := by omega
  have hT := ht.offS (S := fun b => b = q) (fun b hb => by subst hb; omega)
  have hTW := Lib.hid (fun W (hB : Below w.heap.size w W) => hT.below hB)
  obtain ⟨l, hl⟩ : ∃ l, buck bs a = l := ⟨_, rfl⟩
  have he : entO bs a = findE l a := by unfold entO; rw [hl]
  have hbk := Lib.hid fun W (hB : Below w.heap.size w W) => (by have := r_buck s ag a (hTW.out W hB).tab hn hm; rwa [hl] at this : Calls Try.prog 47 #[tbv (.slice A n c) s ag, .int .i64 a] W (RetRow W l))
  have hpt := Lib.hid fun W (hB : Below w.heap.size w W) (hqW : q < W.heap.size) => r_put s ag ⟨a, port, now, false⟩ (hTW.out W hB) hs hbl hn hm (fun b hb => by subst hb; exact hqW)
  rw [hl] at hb0
  obtain ⟨bs', hbs'⟩ : ∃ b, rLearn bs s a port now = b := ⟨_, rfl⟩
  rw [hbs']
  have hE := Lib.hid (show ∀ oe, findE l a = oe → bs' = if (oe.getD zE).st then bs else (rPutO bs s ⟨a, port, now, false⟩).getD bs by rintro oe rfl; rw [← hbs']; unfold rLearn; rw [he])
  replace hb0 := Lib.hid hb0
  have e1 := Lib.hid hq
  have hz0 : w.heap.size < w0.heap.size := Y.out.lt
  have hz1 : q < w0.heap.size := X.out.lt
  clear ht hs hbl hn hm hk1 hk2 hk3 hl he hbs' hT
  go_enter Try.func22, Try.ntmps22
  go_wp2_with fail
  rw [← e1.out, ← hw0]
  clear hw0 hq
  go_at_call 47
  (with_reducible refine (hbk.out w0 B0.out).mono ?_)
  rintro e w1 ⟨A1, n1, c1, rfl, R1, hb1⟩
  have Y1 := Lib.hid (Y.out.below hb1)
  have X1 := Lib.hid (X.out.below hb1)
  have B1 := Lib.hid (bt B0.out hb1)
  replace R1 := Lib.hid R1
  clear hb1 Y X B0 hbk hz0 hz1
  go_wp2_with fail
  go_at_call 42
  (with_reducible refine (r_place R1.out (by have := hb0.out; omega) a).mono ?_)
  rintro e w2 ⟨rfl, hb2⟩
  have Y2 := Lib.hid (Y1.out.below hb2)
  have X2 := Lib.hid (X1.out.below hb2)
  have B2 := Lib.hid (bt B1.out hb2)
  have R2 := Lib.hid (R1.out.below hb2)
  have hpc := Lib.hid (hpt.out w2 B2.out X2.out.lt)
  clear hb2 Y1 X1 B1 R1 hpt
  obtain ⟨y0, y1, y2⟩ := Bx.four' Y2.out
  have hyl := Y2.out.lt
  have hxl := X2.out.lt
  have hlen := R2.out.len
  have hcap := R2.out.cap
  obtain ⟨o, ho⟩ : ∃ o, rPutO bs s ⟨a, port, now, false⟩ = o := ⟨_, rfl⟩
  rw [ho] at hpc
  replace ho := Lib.hid ho
  cases hf : findE l a with
  | none =>
    have hb' := hE.out _ hf
    rw [ho.out] at hb'
    replace hb' := Lib.hid (show bs' = o.getD bs by simpa [zE] using hb')
    rw [idx_find_none hf]
    replace hf := Lib.hid hf
    go_wp2_with fail
    go_at_call 49
    (with_reducible refine hpc.out.mono ?_)
    rintro e w4 ⟨A4, n4, c4, rfl, T4, hb4⟩
    have X4 := Lib.hid (X2.out.below hb4)
    have B4 := Lib.hid (bt B2.out hb4)
    replace T4 := Lib.hid T4
    clear hb4 Y2 X2 B2 R2 y0 y1 y2 hyl hxl hpc
    obtain ⟨x0, x1, x2⟩ := Bx.four' X4.out
    have f0 := X4.out.f 0
    have f1 := X4.out.f 1
    have f2 := X4.out.f 2
    have hxl := X4.out.lt
    have hne : q ≠ w4.heap.size := by omega
    have hT9 := Lib.hid fun v0 v1 v2 o => (((T4.out.keep (OffS.three (S := fun b => b = q) rfl w4 v0 v1 v2)).below ((Below.refl _ _).alloc (Nat.le_refl _) o)).tab)
    have hB9 := Lib.hid fun v0 v1 v2 o => (below3 B4.out hqw v0 v1 v2).alloc (below3 B4.out hqw v0 v1 v2).size o
    clear T4 B4
    go_wp2_with fail
    obtain ⟨W9, hW9⟩ : ∃ W9, W9 = ((((w4.setCell ⟨q, 0, none⟩ (.slice A4 n4 c4)).setCell ⟨q, 1, none⟩ (.int .i64 s)).setCell ⟨q, 2, none⟩ (.int .i64 ag)).alloc (.cells #[.slice A4 n4 c4, .int .i64 s, .int .i64 ag] 24)) := ⟨_, rfl⟩
    have XF : Bx W9 q TT #[.slice A4 n4 c4, .int .i64 s, .int .i64 ag] := by rw [hW9]; exact (Bx.three X4.out).alloc _
    have TF : TabS W9 A4 n4 c4 (o.getD bs) := by rw [hW9]; exact hT9.out _ _ _ _
    have BF : Below w.heap.size w W9 := by rw [hW9]; exact hB9.out _ _ _ _
    rw [← hW9]
    clear hW9 x0 x1 x2
    obtain ⟨x0, x1, x2⟩ := Bx.four' XF
    refine bodyPost_ret (v := tbv (.slice A4 n4 c4) s ag) (by simp [results, Try.results22, go_sem, x0, x1, x2]) rfl ⟨A4, n4, c4, rfl, by rw [hb'.out]; exact TF, BF⟩
  | some x =>
    obtain ⟨k, hk, hx⟩ := idx_find_some hf
    rw [hk]
    have hkl : k < l.length := (List.getElem?_eq_some_iff.1 hx).1
    obtain ⟨b9, o9, rfl, hbw9, u0, u1, u2, u3⟩ := RowE.at_ R2.out hx
    have hkn : (k : Int) < (n1 : Int) := by omega
    have hk0 : (0 : Int) ≤ (k : Int) := by omega
    have hkd : decide ((0 : Int) ≤ (k : Int)) = true := by rw [decide_eq_true_eq]; omega
    replace hk := Lib.hid hk
    replace hf := Lib.hid hf
    clear hx
    cases hst : x.st with
    | true =>
      have hb' := hE.out _ hf.out
      replace hb' := Lib.hid (show bs' = bs by simpa [hst] using hb')
      rw [hst] at u3
      replace hst := Lib.hid hst
      obtain ⟨x0, x1, x2⟩ := Bx.four' X2.out
      have f0 := X2.out.f 0
      have f1 := X2.out.f 1
      have f2 := X2.out.f 2
      have hB9 := Lib.hid fun v0 v1 v2 => below3 B2.out hqw v0 v1 v2
      have hT9 := Lib.hid fun v0 v1 v2 => ((hTW.out w2 B2.out).keep (OffS.three (S := fun b => b = q) rfl w2 v0 v1 v2)).tab
      clear Y2 X2 B2 R2
      go_wp2_with fail
      refine bodyPost_ret (v := tbv (.slice A n c) s ag) (by simp [results, Try.results22, go_sem, x0, x1, x2]) rfl ⟨A, n, c, rfl, by rw [hb'.out]; exact hT9.out _ _ _, hB9.out _ _ _⟩
    | false =>
      have hb' := hE.out _ hf.out
      rw [ho.out] at hb'
      replace hb' := Lib.hid (show bs' = o.getD bs by simpa [hst] using hb')
      rw [hst] at u3
      replace hst := Lib.hid hst
      go_wp2_with fail
      go_at_call 49
      (with_reducible refine hpc.out.mono ?_)
      rintro e w4 ⟨A4, n4, c4, rfl, T4, hb4⟩
      have X4 := Lib.hid (X2.out.below hb4)
      have B4 := Lib.hid (bt B2.out hb4)
      replace T4 := Lib.hid T4
      clear hb4 Y2 X2 B2 R2 y0 y1 y2 hyl hxl hpc
      obtain ⟨x0, x1, x2⟩ := Bx.four' X4.out
      have f0 := X4.out.f 0
      have f1 := X4.out.f 1
      have f2 := X4.out.f 2
      have hxl := X4.out.lt
      have hne : q ≠ w4.heap.size := by omega
      have hT9 := Lib.hid fun v0 v1 v2 o => (((T4.out.keep (OffS.three (S := fun b => b = q) rfl w4 v0 v1 v2)).below ((Below.refl _ _).alloc (Nat.le_refl _) o)).tab)
      have hB9 := Lib.hid fun v0 v1 v2 o => (below3 B4.out hqw v0 v1 v2).alloc (below3 B4.out hqw v0 v1 v2).size o
      clear T4 B4
      go_wp2_with fail
      obtain ⟨W9, hW9⟩ : ∃ W9, W9 = ((((w4.setCell ⟨q, 0, none⟩ (.slice A4 n4 c4)).setCell ⟨q, 1, none⟩ (.int .i64 s)).setCell ⟨q, 2, none⟩ (.int .i64 ag)).alloc (.cells #[.slice A4 n4 c4, .int .i64 s, .int .i64 ag] 24)) := ⟨_, rfl⟩
      have XF : Bx W9 q TT #[.slice A4 n4 c4, .int .i64 s, .int .i64 ag] := by rw [hW9]; exact (Bx.three X4.out).alloc _
      have TF : TabS W9 A4 n4 c4 (o.getD bs) := by rw [hW9]; exact hT9.out _ _ _ _
      have BF : Below w.heap.size w W9 := by rw [hW9]; exact hB9.out _ _ _ _
      rw [← hW9]
      clear hW9 x0 x1 x2
      obtain ⟨x0, x1, x2⟩ := Bx.four' XF
      refine bodyPost_ret (v := tbv (.slice A4 n4 c4) s ag) (by simp [results, Try.results22, go_sem, x0, x1, x2]) rfl ⟨A4, n4, c4, rfl, by rw [hb'.out]; exact TF, BF⟩
end Go.Proofs.Ytnghilcjecjljaa.FdbP

/-
  Plain facts: the reference's answers are the program's, of tables that may be.
-/
namespace Go.Proofs.Ytnghilcjecjljaa.FdbP
open Go.RowKit Go.Sort Go.Proofs.Ytnghilcjecjljaa.SliceP Go.Proofs.Ytnghilcjecjljaa.MacP
set_option linter.unusedVariables false
set_option maxRecDepth 100000

theorem keepL_id {p : E → Bool} {l : List E} (h : ∀ z ∈ l, p z = false) : keepL p l = l := by
  unfold keepL
  rw [List.filter_eq_self]
  intro z hz
  rw [h z hz]; rfl
theorem set_keep {bs : List (List E)} {k : Nat} {v : List E} {p : E → Bool} (h : ∀ (j : Nat) (l : List E), j ≠ k → bs[j]? = some l → ∀ z ∈ l, p z = false) : (bs.map (keepL p)).set k v = bs.set k v := by
  apply List.ext_getElem?
  intro j
  rw [List.getElem?_set, List.getElem?_set, List.length_map, List.getElem?_map]
  by_cases hj : k = j
  · rw [if_pos hj, if_pos hj]
  · rw [if_neg hj, if_neg hj]
    cases hb : bs[j]? with
    | none => rfl
    | some l => rw [Option.map_some, keepL_id (h j l (fun e => hj e.symm) hb)]
theorem other_bucket {bs : List (List E)} {s ag : Int} (h : rightT bs s ag = true) {a : Int} {k : Nat} (hk : bucketI a bs.length = (k : Int)) {j : Nat} {l : List E} (hj : j ≠ k) (hl : bs[j]? = some l) : ∀ z ∈ l, z.mac ≠ a := fun z hz e => by
  have := ((right_iff.1 h).2 j l hl).2.2 z hz
  rw [e, hk] at this
  have := this.2
  omega
theorem lastO_K (l : List E) : (lastK l l.length = -1 ∧ lastO l = none) ∨ ∃ (k : Nat) (y : E), lastK l l.length = (k : Int) ∧ l[k]? = some y ∧ lastO l = some y := by
  rcases lastK_spec l l.length (Nat.le_refl _) with ⟨h1, h2⟩ | ⟨k, y, h1, h2, h3, h4, h5⟩
  · refine .inl ⟨h1, ?_⟩
    have : dyn l = [] := by
      unfold dyn
      rw [List.filter_eq_nil_iff]
      intro z hz
      obtain ⟨j, hj⟩ := List.mem_iff_getElem?.1 hz
      rw [h2 j z (List.getElem?_eq_some_iff.1 hj).1 hj]; simp
    unfold lastO
    rw [this]; rfl
  · refine .inr ⟨k, y, h1, h3, ?_⟩
    have e : l = l.take k ++ y :: l.drop (k + 1) := by
      have e2 : l.drop k = y :: l.drop (k + 1) := by
        rw [List.drop_eq_getElem_cons h2]
        rw [List.getElem?_eq_getElem h2] at h3
        rw [Option.some.inj h3]
      rw [← e2, List.take_append_drop]
    have hd : dyn l = dyn (l.take k) ++ [y] := by
      have h6 : (l.drop (k + 1)).filter (fun x => !x.st) = [] := by
        rw [List.filter_eq_nil_iff]
        intro z hz
        obtain ⟨j, hj⟩ := List.mem_iff_getElem?.1 hz
        rw [List.getElem?_drop] at hj
        rw [h5 (k + 1 + j) z (by omega) (List.getElem?_eq_some_iff.1 hj).1 hj]; simp
      unfold dyn
      conv => lhs; rw [e]
      rw [List.filter_append, List.filter_cons, if_pos (by rw [h4]; rfl), h6]
    unfold lastO
    rw [hd]
    simp
theorem keep_E {l : List E} {y : E} (hn : (l.map E.mac).Nodup) (hy : y ∈ l) : keepL (isE y) l = keepL (isM y.mac) l := by
  unfold keepL
  refine List.filter_congr fun z hz => ?_
  congr 1
  unfold isE isM
  by_cases h : z = y
  · subst h; simp
  · rw [decide_eq_false h]
    have hne : z.mac ≠ y.mac := fun e => by
      have h1 := find_some_of hn hz e
      have h2 := find_some_of hn hy rfl
      rw [h1] at h2
      exact h (Option.some.inj h2)
    have : (z.mac == y.mac) = false := by simpa using hne
    rw [this]
theorem rPut_eq {bs : List (List E)} {s ag : Int} {x : E} (h : rightT bs s ag = true) : rPutO bs s x = putO bs s x := by
  obtain ⟨k, h1, h2, h3⟩ := right_buck h x.mac
  have hb1 : (bs.map (keepL (isM x.mac))).getD k [] = keepL (isM x.mac) (buck bs x.mac) := by
    rw [List.getD_eq_getElem?_getD, List.getElem?_map, h3]; rfl
  obtain ⟨_, hnd, hbe⟩ := buck_right h x.mac
  have hsub := keepL_sub (isM x.mac) (buck bs x.mac)
  have hnd0 : ((keepL (isM x.mac) (buck bs x.mac)).map E.mac).Nodup := hnd.sublist (hsub.map _)
  have hq : ∀ (j : Nat) (l : List E), j ≠ k → bs[j]? = some l → ∀ z ∈ l, isM x.mac z = false := fun j l hj hl z hz => by
    have := other_bucket h h1 hj hl z hz
    unfold isM
    simpa using this
  unfold rPutO putO
  rw [h1]
  simp only [Int.toNat_natCast, hb1]
  unfold rPutL
  by_cases hs : (((keepL (isM x.mac) (buck bs x.mac)).length : Int) == s) = true
  · rw [if_pos hs, if_pos hs]
    rcases lastO_K (keepL (isM x.mac) (buck bs x.mac)) with ⟨e1, e2⟩ | ⟨i, y, e1, e2, e3⟩
    · rw [e1, e2]; rfl
    · rw [e3, e1, if_neg (by omega)]
      simp only [Option.map_some]
      have hym : y ∈ keepL (isM x.mac) (buck bs x.mac) := List.mem_of_getElem? e2
      have hkey : rKey (keepL (isM x.mac) (buck bs x.mac)) = y.mac := by
        unfold rKey
        rw [e1, Int.toNat_natCast, List.getD_eq_getElem?_getD, e2]; rfl
      have hyb : bucketI y.mac bs.length = (k : Int) := by rw [(hbe y (hsub.mem hym)).2, h1]
      have hg : ((bs.map (keepL (isM x.mac))).map (keepL (isE y))).getD k [] = keepL (isE y) (keepL (isM x.mac) (buck bs x.mac)) := by
        rw [List.getD_eq_getElem?_getD, List.getElem?_map, List.getElem?_map, h3]; rfl
      rw [hg, hkey, keep_E hnd0 hym, List.map_map]
      have ec : (keepL (isE y) ∘ keepL (isM x.mac)) = keepL (fun z => isM x.mac z || isE y z) := by
        funext l; exact keepL_keepL _ _ l
      rw [ec, set_keep]
      intro j l hj hl z hz
      rw [hq j l hj hl z hz, Bool.false_or]
      unfold isE
      rw [decide_eq_false_iff_not]
      rintro rfl
      exact other_bucket h hyb hj hl z hz rfl
  · rw [if_neg hs, if_neg hs]
    simp only [Option.map_some]
    rw [set_keep hq]
theorem rLearn_eq {bs : List (List E)} {s ag a port now : Int} (h : rightT bs s ag = true) : rLearn bs s a port now = learnT bs s a port now := by
  unfold rLearn learnT
  rw [rPut_eq h]
  rfl
theorem findW_eq {bs : List (List E)} {s ag a now : Int} (h : rightT bs s ag = true) (ht : timeB now = true) : findW (entO bs a) ag now = findI bs ag a now := by
  show findW (entO bs a) ag now = findO (entO bs a) ag now
  cases ho : entO bs a with
  | none => rfl
  | some x =>
    have hx := rightE_time (ent_right h ho).1
    unfold findW findO
    simp only
    rw [oldW_eq hx (timeB_iff.1 ht)]
theorem fewT_bl (bs : List (List E)) : ∀ l ∈ fewT bs, l.length ≤ 100000 := fun l hl => by
  unfold fewT at hl
  obtain ⟨y, _, rfl⟩ := List.mem_map.1 hl
  rw [List.length_take]; omega
end Go.Proofs.Ytnghilcjecjljaa.FdbP
